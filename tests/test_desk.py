"""Promises 2, 3 and 28: the desk."""

import itertools
import random
import unittest

from friendfoe.desk import Desk
from friendfoe.errors import NoRow, TooMany, WebError
from friendfoe.mending import least_mend
from friendfoe.moving import broken_weight, settled
from friendfoe.several import least_several
from friendfoe.shortest import shortest_odd
from friendfoe.siding import sides_of
from friendfoe.standing import Stand
from friendfoe.texting import read_web, show_web
from friendfoe.turning import turned
from samples import SIXTY, WEBS, assert_plain, great_web, plain_wrong, renumbered, ring_web, small_webs, some_weights

GREAT = 10 ** 30
ASKED = ("web", "sides", "broken", "ring", "mend", "several", "settle")


def tie_rows(web, weights=None):
    """The rows by which the ties of a web come."""
    rows = [f"tie {one} {other} {kind}" for one, other, kind in web[1]]
    return rows if weights is None else [f"{row} {weight}" for row, weight in zip(rows, weights)]


def desk_of(web, weights=None):
    desk = Desk(web[0])
    for row in tie_rows(web, weights):
        desk.say(row)
    return desk


def told(function, *handed):
    """What the function tells, or the answer where it refuses."""
    try:
        return function(*handed)
    except TooMany:
        return "too many"


def all_answers(desk, places=6):
    """All that can be asked without a change, and now()."""
    many = min(places, desk.now()[0][0])
    betweens = [desk.say(f"between {one} {other}") for one in range(many) for other in range(many)]
    return [desk.say(row) for row in ASKED] + betweens + [desk.now()]


class Slow:
    """A desk by another way: rows of ties, each with its weight and whether it was kept, told of by the functions."""

    def __init__(self, many):
        self.many, self.rows = many, []

    def web(self):
        return (self.many, tuple(tie for tie, weight, kept in self.rows))

    def kept(self):
        return (self.many, tuple(tie for tie, weight, kept in self.rows if kept))

    def weights(self):
        return tuple(weight for tie, weight, kept in self.rows)

    def tie(self, one, other, kind, weight=1):
        kept = sides_of((self.many, self.kept()[1] + ((one, other, kind),))) is not None
        self.rows.append(((one, other, kind), weight, kept))
        return "kept" if kept else "breaks"

    def back(self):
        self.rows.pop()
        return "ok"

    def turn(self, places):
        ties = turned(self.web(), places)[1]
        self.rows = [(tie, weight, kept) for tie, (old, weight, kept) in zip(ties, self.rows)]
        return "ok"

    def stand(self):
        """A stand that the kept ties alone came to."""
        stand = Stand(self.many)
        for tie in self.kept()[1]:
            stand.come(*tie)
        return stand

    def between(self, one, other):
        return self.stand().between(one, other) or "free"

    def several(self):
        answer = least_several(self.web())
        return str(answer[1]) if answer[0] == "least" else "none"

    def settle(self):
        return str(broken_weight(self.web(), self.weights(),
                                 settled(self.web(), self.weights(), sides_of(self.kept()))[0]))

    def answers(self, places=6):
        many = min(places, self.many)
        sides, ring = sides_of(self.web()), shortest_odd(self.web())
        broken = [str(number) for number, (tie, weight, kept) in enumerate(self.rows) if not kept]
        return [show_web(self.web(), self.weights()), "none" if sides is None else " ".join(map(str, sides)),
                " ".join(broken) or "none", "none" if ring is None else str(len(ring[0][0])),
                told(lambda: str(least_mend(self.web(), self.weights())[0])), told(self.several), told(self.settle),
                *[self.between(one, other) for one in range(many) for other in range(many)],
                (self.web(), self.weights())]


class Rows(unittest.TestCase):
    def said(self, desk, *rows):
        """Each row is answered as told."""
        for row, answer in rows:
            self.assertEqual(desk.say(row), answer, row)
            self.assertIs(type(desk.say("web")), str)

    def refused(self, desk, *things):
        """Each thing is refused, and the desk is as it was."""
        before = all_answers(desk)
        for thing in things:
            with self.assertRaises(NoRow) as told:
                desk.say(thing)
            self.assertIs(type(told.exception), NoRow)
            self.assertIsInstance(told.exception, WebError)
            self.assertEqual(desk.now(), before[-1], thing)
        self.assertEqual(all_answers(desk), before)

    def test_ordinary(self):
        desk = Desk(4)
        self.said(desk, ("tie 0 1 foe 5", "kept"), ("tie 1 2 foe", "kept"), ("tie 0 2 foe 2", "breaks"),
                  ("web", "web 4\n0 1 foe 5\n1 2 foe 1\n0 2 foe 2"), ("sides", "none"), ("between 0 2", "together"),
                  ("between 0 1", "apart"), ("between 3 1", "free"), ("broken", "2"), ("ring", "3"), ("mend", "1"),
                  ("several", "3"), ("settle", "1"), ("turn 1 3", "ok"),
                  ("web", "web 4\n0 1 friend 5\n1 2 friend 1\n0 2 foe 2"), ("between 0 1", "together"),
                  ("several", "none"), ("back", "ok"), ("sides", "0 0 0 0"), ("broken", "none"), ("ring", "none"),
                  ("mend", "0"), ("several", "1"), ("settle", "0"), ("web", "web 4\n0 1 friend 5\n1 2 friend 1"))

    def test_at_first(self):
        for many in (1, 2, 40):
            desk = Desk(many)
            self.assertEqual(desk.now(), ((many, ()), ()))
            self.said(desk, ("web", f"web {many}"), ("sides", " ".join("0" * many)), ("broken", "none"),
                      ("ring", "none"), ("mend", "0"), ("several", "1"), ("settle", "0"), ("between 0 0", "together"))
            self.refused(desk, "back")

    def test_ties_with_a_weight_and_without(self):
        desk = Desk(3)
        self.said(desk, ("tie 0 1 friend", "kept"), ("tie 1 0 foe 1", "breaks"), (f"tie 1 2 foe {GREAT}", "kept"),
                  (f"tie 2 0 friend {GREAT - 1}", "breaks"), ("tie 2 0 foe 7", "kept"))
        web, weights = desk.now()
        self.assertEqual(web, (3, ((0, 1, "friend"), (1, 0, "foe"), (1, 2, "foe"), (2, 0, "friend"), (2, 0, "foe"))))
        self.assertEqual(weights, (1, 1, GREAT, GREAT - 1, 7))
        assert_plain(self, desk.now())

    def test_weights_of_0_and_of_more(self):
        desk = Desk(3)
        self.refused(desk, "tie 0 1 foe 0", f"tie 0 1 foe {GREAT + 1}", f"tie 0 1 foe {10 ** 31}", "tie 0 1 foe -1",
                     f"tie 0 1 foe {SIXTY}", "tie 0 1 foe 01", "tie 0 1 foe +1", "tie 0 1 foe 1.0", "tie 0 1 foe 1 1",
                     "tie 0 1 foe ", "tie 0 1 foe  1", "tie 0 1 foe one", "tie 0 1 foe 1_0", "tie 0 1 foe 1e3",
                     "tie 0 1 foe " + "9" * 31, "tie 0 1 foe " + "1" * 5000, "tie 0 1 foe 1\n")
        self.said(desk, (f"tie 0 1 foe {GREAT}", "kept"), ("tie 0 1 foe 1", "kept"))

    def test_ties_that_are_none(self):
        desk = Desk(3)
        desk.say("tie 0 1 foe")
        self.refused(desk, "tie", "tie ", "tie 0", "tie 0 1", "tie 0 1 ", "tie 0 0 foe", "tie 2 2 friend",
                     "tie 0 3 foe", "tie 3 0 foe", "tie -1 0 foe", "tie 0 -0 foe", "tie 00 1 foe", "tie 0 01 foe",
                     "tie +0 1 foe", "tie 0 1 Foe", "tie 0 1 FOE", "tie 0 1 foes", "tie 0 1 enemy",
                     "tie 0 1 friend friend",
                     "tie 0 foe 1",
                     "tie foe 0 1", "tie 0 1 2", "tie  0 1 foe", "tie 0  1 foe", "tie 0 1  foe", " tie 0 1 foe",
                     "tie 0 1 foe\n", "\ntie 0 1 foe", "tie 0 1\nfoe", "tie\t0 1 foe", "Tie 0 1 foe", "tie 0 1 foe 1 1",
                     "tie,0,1,foe", "tie 0 1 foe1", "tie0 1 foe", f"tie 0 {SIXTY} foe", "tie 0 1.0 foe", "tie a b foe",
                     "tie 0 1 foe\ntie 0 1 foe", "tie (0) 1 foe", "tie 0 1 'foe'", "tie 0 " + "1" * 5990)

    def test_a_121st_tie(self):
        desk = Desk(40)
        for row in tie_rows(great_web()):
            self.assertIn(desk.say(row), ("kept", "breaks"))
        self.assertEqual(desk.now()[0], great_web())
        self.refused(desk, "tie 0 1 foe", "tie 0 1 friend", "tie 0 1 foe 5")
        self.said(desk, ("back", "ok"))
        self.assertEqual(len(desk.now()[0][1]), 119)
        self.assertIn(desk.say("tie 0 1 foe 9"), ("kept", "breaks"))
        self.refused(desk, "tie 0 1 foe")
        self.assertEqual(len(desk.now()[1]), 120)
        self.assertEqual(desk.now()[1][119], 9)

    def test_back(self):
        desk = Desk(3)
        self.refused(desk, "back")
        self.said(desk, ("tie 0 1 foe 4", "kept"), ("tie 1 0 friend 5", "breaks"), ("back", "ok"), ("broken", "none"))
        self.assertEqual(desk.now(), ((3, ((0, 1, "foe"),)), (4,)))
        self.said(desk, ("back", "ok"))
        self.assertEqual(desk.now(), ((3, ()), ()))
        self.refused(desk, "back", "back 1", "back ", " back", "back\n", "Back", "back back", "backs", "back 0")
        self.said(desk, ("tie 1 0 friend 5", "kept"))

    def test_turned_since_stays_turned(self):
        desk = Desk(3)
        self.said(desk, ("tie 0 1 foe", "kept"), ("tie 1 2 foe", "kept"), ("turn 1", "ok"), ("back", "ok"))
        self.assertEqual(desk.now()[0], (3, ((0, 1, "friend"),)))
        self.said(desk, ("between 0 1", "together"), ("tie 1 2 foe", "kept"), ("between 0 2", "apart"),
                  ("tie 0 2 friend", "breaks"), ("turn 2", "ok"),
                  ("web", "web 3\n0 1 friend 1\n1 2 friend 1\n0 2 foe 1"),
                  ("broken", "2"), ("back", "ok"), ("web", "web 3\n0 1 friend 1\n1 2 friend 1"), ("back", "ok"),
                  ("web", "web 3\n0 1 friend 1"), ("tie 0 1 foe", "breaks"))

    def test_turn_at_one_place_and_at_all(self):
        desk = desk_of((4, ((0, 1, "foe"), (1, 2, "friend"), (2, 3, "foe"), (3, 0, "foe"))), (1, 2, 3, 4))
        self.said(desk, ("broken", "3"), ("turn 0", "ok"))
        self.assertEqual(desk.now(),
                         ((4, ((0, 1, "friend"), (1, 2, "friend"), (2, 3, "foe"), (3, 0, "friend"))), (1, 2, 3, 4)))
        before = all_answers(desk)
        self.said(desk, ("turn 0 1 2 3", "ok"))
        self.assertEqual(all_answers(desk), before)
        self.said(desk, ("turn 1 3", "ok"))
        self.assertEqual(desk.now()[0], (4, ((0, 1, "foe"), (1, 2, "foe"), (2, 3, "friend"), (3, 0, "foe"))))
        self.said(desk, ("turn 1 3", "ok"))
        self.assertEqual(all_answers(desk), before)
        self.said(Desk(1), ("turn 0", "ok"))
        self.said(Desk(40), ("turn " + " ".join(map(str, range(40))), "ok"), ("turn 39", "ok"))

    def test_turns_that_are_none(self):
        desk = desk_of((4, ((0, 1, "foe"), (1, 2, "foe"))))
        self.refused(desk, "turn", "turn ", "turn 1 0", "turn 0 0", "turn 1 1", "turn 0 2 1", "turn 4", "turn 0 4",
                     "turn -1", "turn 01", "turn 0  1", "turn 0 1 ", " turn 0", "turn 0,1", "turn all", "turn 0\n",
                     "turn\n0", "turn 0 1 1", "turn 0 1 2 3 4", "Turn 0", f"turn {SIXTY}", "turn 0 foe",
                     "turn " + " ".join(map(str, range(1500))), "turn +1", "turn 1.0", "turned 1")

    def test_between(self):
        desk = desk_of((6, ((0, 1, "foe"), (1, 2, "foe"), (0, 2, "foe"), (4, 5, "friend"))))
        self.said(desk, ("between 0 1", "apart"), ("between 1 0", "apart"), ("between 0 2", "together"),
                  ("between 4 5", "together"), ("between 0 4", "free"), ("between 3 0", "free"),
                  ("between 3 3", "together"), ("between 0 0", "together"))
        self.refused(desk, "between", "between 0", "between 0 ", "between 0 6", "between 6 0", "between 0 1 2",
                     "between -1 0", "between 00 1", "between  0 1", "between 0  1", "between 0 1 ", "between 0 1\n",
                     "between a b", "Between 0 1", "between 0,1", "between 6 6", f"between 0 {SIXTY}")

    def test_lone_words_stand_alone(self):
        desk = desk_of((4, ((0, 1, "foe"), (1, 2, "foe"), (0, 2, "foe"))))
        for word in ASKED + ("back",):
            self.refused(desk, word + " ", " " + word, word + "\n", "\n" + word, word + " 0", word + " " + word,
                         word.upper(), word.title(), word + "s", word[:-1], word + "\t", word + "\n" + word,
                         word + "  ", word + ".")
        for word in ASKED:
            desk.say(word)

    def test_numbers_told_as_long_as_they_are(self):
        ties = tuple((0, 1, kind) for kind in ("friend", "foe") * 60)
        desk = desk_of((2, ties), (GREAT,) * 120)
        self.said(desk, ("mend", str(60 * GREAT)), ("settle", str(60 * GREAT)), ("ring", "2"), ("several", "none"),
                  ("sides", "none"), ("broken", " ".join(map(str, range(1, 120, 2)))))

    def test_too_many(self):
        desk = desk_of(ring_web(9, 9))
        self.said(desk, ("mend", "too many"), ("several", "too many"), ("ring", "9"), ("settle", "1"))
        before = all_answers(desk)
        self.assertEqual(all_answers(desk), before)
        self.said(desk_of(ring_web(9, 8)), ("mend", "0"), ("sides", "0 1 0 1 0 1 0 1 0"), ("several", "2"))
        # Seventeen pairs of foes that broke: each has to be moved over.
        desk = Desk(40)
        for at in range(17):
            self.said(desk, (f"tie {2 * at} {2 * at + 1} friend", "kept"),
                      (f"tie {2 * at} {2 * at + 1} foe 2", "breaks"))
        self.said(desk, ("settle", "too many"), ("mend", "17"), ("several", "none"), ("ring", "2"))
        self.said(desk, ("back", "ok"), ("settle", "16"), ("mend", "16"))

    def test_settle_of_the_stand_s_sides(self):
        # What broke counts for settling, with its weight.
        desk = desk_of((3, ((0, 1, "friend"), (1, 0, "foe"), (1, 2, "foe"))), (2, 5, 1))
        self.said(desk, ("settle", "2"), ("between 0 1", "together"))
        desk = desk_of((3, ((0, 1, "friend"), (1, 0, "foe"), (1, 2, "foe"))), (5, 2, 1))
        self.said(desk, ("settle", "2"))

    def test_sides_of_the_whole_web(self):
        desk = desk_of((3, ((1, 2, "foe"),)))
        self.said(desk, ("sides", "0 0 1"), ("tie 2 1 friend", "breaks"), ("sides", "none"), ("between 1 2", "apart"),
                  ("back", "ok"), ("sides", "0 0 1"))

    def test_other_words(self):
        desk = desk_of((3, ((0, 1, "foe"),)))
        self.refused(desk, "", " ", "\n", "tie\n", "ok", "kept", "none", "free", "now", "come 0 1 foe", "say web",
                     "web 3", "stand", "weights", "help", "0", "0 1 foe", "web 3\n0 1 foe", "x" * 6000, " " * 6000,
                     "\n" * 6000, "lone", "many", "__init__", "many 3", "mend 1", "sides 0 0 0", "None", "rings",
                     "weigh 0", "paper", "layers", "plain")

    def test_things_that_are_no_texts(self):
        desk = desk_of((3, ((0, 1, "foe"),)))
        self.refused(desk, *plain_wrong()[:9], *[thing for thing in plain_wrong() if not isinstance(thing, str)],
                     ("web",), ["web"], {"web": 1}, ("tie", 0, 1, "foe"), ["tie", "0", "1", "foe"], None, True, 0, (),
                     [], {})

    def test_web_is_read_again(self):
        for seed, web in enumerate(WEBS + small_webs(20)):
            for weights in (None, some_weights(web, seed, GREAT)):
                desk = desk_of(web, weights)
                text = desk.say("web")
                expected = weights or (1,) * len(web[1])
                self.assertEqual(text, show_web(web, expected))
                self.assertEqual(read_web(text), (web, expected if web[1] else None))
                self.assertEqual(desk.now(), (web, expected))


class Whole(unittest.TestCase):
    def test_what_the_functions_tell(self):
        for seed, web in enumerate(WEBS + small_webs(80)):
            for weights in (None, some_weights(web, seed), some_weights(web, seed, GREAT)):
                desk, slow = Desk(web[0]), Slow(web[0])
                for number, (one, other, kind) in enumerate(web[1]):
                    weight = () if weights is None else (weights[number],)
                    row = " ".join(map(str, ("tie", one, other, kind, *weight)))
                    self.assertEqual(desk.say(row), slow.tie(one, other, kind, *weight))
                self.assertEqual(all_answers(desk), slow.answers())

    def test_many_rows_of_all_sorts(self):
        chance = random.Random(12)
        for turn in range(25):
            many = chance.randint(2, 9)
            desk, slow = Desk(many), Slow(many)
            for step in range(25):
                way = chance.random()
                if way < 0.2 and slow.rows:
                    self.assertEqual(desk.say("back"), slow.back())
                elif way < 0.4:
                    places = sorted(chance.sample(range(many), chance.randint(1, many)))
                    self.assertEqual(desk.say("turn " + " ".join(map(str, places))), slow.turn(tuple(places)))
                else:
                    tie = (*chance.sample(range(many), 2), chance.choice(["friend", "foe"]),
                           chance.choice([1, 2, 9, GREAT]))
                    self.assertEqual(desk.say("tie " + " ".join(map(str, tie))), slow.tie(*tie))
                self.assertEqual(all_answers(desk), slow.answers())

    def test_turned_and_taken_back_as_the_stand_of_what_is_there(self):
        # What stands is what would stand if those that are there came at once, as they are now.
        chance = random.Random(2)
        for turn in range(20):
            desk = Desk(7)
            for step in range(30):
                way = chance.random()
                if way < 0.25 and desk.now()[1]:
                    desk.say("back")
                elif way < 0.5:
                    desk.say(f"turn {chance.randrange(7)}")
                else:
                    one, other = chance.sample(range(7), 2)
                    desk.say(f"tie {one} {other} {chance.choice(['friend', 'foe'])} {chance.randint(1, 9)}")
            self.assertEqual(all_answers(desk_of(*desk.now())), all_answers(desk))

    def test_two_desks(self):
        one, other = Desk(3), Desk(3)
        one.say("tie 0 1 foe 5")
        one.say("turn 1")
        self.assertEqual(all_answers(other), all_answers(Desk(3)))
        with self.assertRaises(NoRow):
            other.say("back")
        other.say("tie 1 2 foe 7")
        self.assertEqual(one.now(), ((3, ((0, 1, "friend"),)), (5,)))
        self.assertEqual(other.now(), ((3, ((1, 2, "foe"),)), (7,)))
        one.say("back")
        self.assertEqual(other.now()[1], (7,))

    def test_asking_changes_nothing(self):
        desk = desk_of(great_web(4, many=8, ties=30))
        before = all_answers(desk)
        for rows in itertools.permutations(ASKED, 3):
            for row in rows:
                desk.say(row)
        self.assertEqual(all_answers(desk), before)
        kept = desk.now()
        desk.say("tie 0 1 foe 3")
        desk.say("turn 2")
        self.assertEqual(kept, before[-1])

    def test_numbered_otherwise(self):
        for seed in range(10):
            web = great_web(seed, many=8, ties=20)
            other, places, numbers = renumbered(web, seed)
            first, second = desk_of(web), desk_of(other)
            for row in ("ring", "mend", "several"):
                self.assertEqual(first.say(row), second.say(row))
            self.assertEqual(first.say("sides") == "none", second.say("sides") == "none")

    def test_forty_places_and_120_ties(self):
        for seed in range(5):
            web = great_web(seed)
            weights = some_weights(web, seed, GREAT)
            desk, slow = Desk(40), Slow(40)
            for number, (tie, weight) in enumerate(zip(web[1], weights)):
                self.assertEqual(desk.say(" ".join(map(str, ("tie", *tie, weight)))), slow.tie(*tie, weight))
            self.assertEqual(all_answers(desk, 3), slow.answers(3))


if __name__ == "__main__":
    unittest.main()
