"""Promises 2, 3 and 18: the small checker."""

import random
import unittest

from friendfoe.checking import shown_by
from friendfoe.mending import least_mend
from friendfoe.papering import paper_of
from friendfoe.turning import turned
from papers import shown_slowly
from samples import (SIXTY, WEBS, assert_steady, beside, changed, great_holding_web, great_web, least_slowly,
                     mixed_parts, plain_wrong, renumbered, renumbered_weights, ring_web, small_webs, some_places,
                     some_weights, spoiled)

GREAT = 10 ** 30
ODD = ring_web(3, 1)
RING = ((0, 1, 2), (0, 1, 2))
TWO = beside(ring_web(3, 1), ring_web(2, 1))
RING_TWO = ((3, 4), (3, 4))
NOTHING = ("rings", ())


def rings(*rows):
    return ("rings", rows)


class Checks(unittest.TestCase):
    def shows(self, web, weights, paper, expected):
        told = shown_by(web, weights, paper)
        self.assertIs(type(told), int)
        self.assertEqual(told, expected)

    def no(self, web, weights, *things):
        for thing in things:
            self.assertIsNone(shown_by(web, weights, thing))


class Rings(Checks):
    def test_half_of_all_times_upwards(self):
        for times, number in ((1, 1), (2, 1), (3, 2), (4, 2), (5, 3), (6, 3)):
            self.shows(ODD, (3, 9, 4), rings((RING, times)), number)
            self.shows(ODD, (3, 9, 4), rings(*[(RING, 1)] * times), number)
        self.shows(ODD, (9, 9, 9), rings((RING, 2), (RING, 3)), 3)

    def test_no_rows(self):
        for web in WEBS:
            self.shows(web, None, NOTHING, 0)
            self.shows(web, (GREAT,) * len(web[1]), NOTHING, 0)

    def test_twice_a_weight_and_one_more(self):
        self.shows(ODD, None, rings((RING, 2)), 1)
        self.no(ODD, None, rings((RING, 3)), rings((RING, 2), (RING, 1)), rings((RING, 1), (RING, 1), (RING, 1)))
        for weights in ((3, 9, 4), (9, 3, 4), (4, 9, 3)):
            self.shows(ODD, weights, rings((RING, 6)), 3)
            self.shows(ODD, weights, rings((RING, 5), (RING, 1)), 3)
            self.no(ODD, weights, rings((RING, 7)), rings((RING, 5), (RING, 2)))
        self.shows(ODD, (GREAT,) * 3, rings((RING, 2 * GREAT)), GREAT)
        self.no(ODD, (GREAT,) * 3, rings((RING, 2 * GREAT + 1)), rings((RING, SIXTY)))

    def test_ties_that_stand_in_two_rings(self):
        # Ties 0 and 1 close a ring of two, and tie 0 one of three.
        web = (3, ((0, 1, "foe"), (1, 0, "friend"), (1, 2, "friend"), (2, 0, "friend")))
        two, three = ((0, 1), (0, 1)), ((0, 1, 2), (0, 2, 3))
        self.shows(web, None, rings((two, 1), (three, 1)), 1)
        self.no(web, None, rings((two, 2), (three, 1)), rings((two, 1), (three, 2)))
        self.shows(web, (2, 1, 1, 1), rings((two, 2), (three, 2)), 2)
        self.no(web, (2, 1, 1, 1), rings((two, 3), (three, 1)))
        self.shows(web, (2, 2, 1, 1), rings((two, 3), (three, 1)), 2)

    def test_rings_begun_anywhere_and_either_way(self):
        for ring in (((1, 2, 0), (1, 2, 0)), ((2, 1, 0), (1, 0, 2)), ((0, 2, 1), (2, 1, 0))):
            self.shows(ODD, None, rings((ring, 2)), 1)

    def test_even_rings_and_none(self):
        self.no(ring_web(3, 2), None, rings((RING, 1)))
        self.no(ring_web(4, 4), None, rings((((0, 1, 2, 3), (0, 1, 2, 3)), 1)))
        self.no(ODD, None, *[rings((ring, 1)) for ring in (
            (), ((), ()), ((0,), (0,)), ((0, 1), (0, 0)), ((0, 1, 2), (0, 2, 1)), ((0, 1, 1), (0, 1, 2)),
            ((0, 1, 2), (0, 1)), ((0, 1, 2), (0, 1, 3)), ((0, 1, 3), (0, 1, 2)), ((0, 1, 2), (0, 1, -1)),
            ((0, 1, 2), (0, True, 2)), ((False, 1, 2), (0, 1, 2)), RING + ((),), [*RING], (list(RING[0]), RING[1]),
            (RING[0], list(RING[1])), None, "ring", 0, {0: RING[0], 1: RING[1]})])

    def test_times_of_other_kinds(self):
        for times in (0, -1, -2, -SIXTY, True, False, None, "1", "", (1,), [1], {1: 1}, (), {}):
            self.no(ODD, (GREAT,) * 3, rings((RING, times)), rings((RING, 1), (RING, times)))

    def test_a_part_more_or_less(self):
        self.no(ODD, None, ("rings",), ("rings", (), ()), ("rings", (), None), ("rings", ((RING, 1),), 1),
                ("rings", None), ("rings", []), ("rings", [(RING, 1)]), ("rings", {}), ("rings", ""), ("rings", 0),
                ("rings", True), rings(RING), rings((RING,)), rings((RING, 1, 1)), rings((1, RING)), rings([RING, 1]),
                rings(()), rings(None), rings({RING: 1}), ("rings", (RING, 1)), ("rings", RING), (("rings", ()),),
                ((), "rings"), ["rings", ()], "rings", ())

    def test_other_words(self):
        for word in ("ring", "Rings", "RINGS", "rings ", " rings", "", None, 0, True, ("rings",), ["rings"],
                     {"rings": 1}, "case", "none", "crowd", "clash"):
            self.no(ODD, None, (word, ((RING, 1),)), (word, ()))


class Splits(Checks):
    def test_ordinary(self):
        one, two = rings((RING, 2)), rings((RING_TWO, 2))
        self.shows(TWO, None, ("split", (((0, 1, 2), one), ((3, 4), two))), 2)
        self.shows(TWO, None, ("split", (((3, 4), two), ((0, 1, 2), one))), 2)
        self.shows(TWO, None, ("split", (((0, 1, 2), one),)), 1)
        self.shows(TWO, (5, 7, 6, GREAT, GREAT), ("split", (((0, 1, 2), rings((RING, 9))),
                                                            ((3, 4), rings((RING_TWO, 2 * GREAT))))), GREAT + 5)

    def test_each_half_is_upwards_by_itself(self):
        one, two = rings((RING, 1)), rings((RING_TWO, 1))
        self.shows(TWO, None, ("split", (((0, 1, 2), one), ((3, 4), two))), 2)
        self.shows(TWO, None, rings((RING, 1), (RING_TWO, 1)), 1)

    def test_no_rows_and_no_ties(self):
        for web in WEBS:
            self.shows(web, None, ("split", ()), 0)
            self.shows(web, None, ("split", (((), NOTHING),)), 0)
            self.shows(web, None, ("split", (((), NOTHING), ((), ("split", ())), ((), NOTHING))), 0)

    def test_more_ties_than_the_paper_needs(self):
        one, two = rings((RING, 2)), rings((RING_TWO, 2))
        self.shows(TWO, None, ("split", (((0, 1, 2, 3, 4), one),)), 1)
        self.shows(TWO, None, ("split", (((0, 1, 2, 3, 4), two),)), 1)

    def test_ties_in_two_rows(self):
        one, two = rings((RING, 2)), rings((RING_TWO, 2))
        self.no(TWO, None, ("split", (((0, 1, 2), one), ((0, 3, 4), two))), ("split", (((0, 1, 2), one),) * 2),
                ("split", (((4,), NOTHING), ((3,), NOTHING), ((4,), NOTHING))))
        self.shows(TWO, None, ("split", (((4,), NOTHING), ((3,), NOTHING), ((0,), NOTHING))), 0)

    def test_ties_twice_not_rising_or_not_there(self):
        for ties in ((0, 2, 1), (0, 0, 1, 2), (0, 1, 1, 2), (2, 1, 0), (0, 1, 2, 5), (-1, 0, 1, 2), (0, 1, 2, SIXTY),
                     (False, 1, 2), (0, True, 2), (0, 1, 2, None), (0, 1, "2"), [0, 1, 2], {0: 0, 1: 1, 2: 2}, None, "",
                     0, (0, 1, (2,)), ((0, 1, 2),)):
            for paper in (NOTHING, rings((RING, 2))):
                self.no(TWO, None, ("split", ((ties, paper),)))

    def test_rings_of_ties_not_given(self):
        one = rings((RING, 2))
        self.no(TWO, None, ("split", (((0, 1), one),)), ("split", (((3, 4), one),)), ("split", (((), one),)),
                ("split", (((0, 1, 3), one), ((2,), NOTHING))))

    def test_within_one_another(self):
        one = rings((RING, 2))
        inner = ("split", (((0, 1, 2), one), ((3,), NOTHING)))
        self.shows(TWO, None, ("split", (((0, 1, 2, 3), inner), ((4,), NOTHING))), 1)
        # What the outer one has not given, the inner one has not to give.
        self.no(TWO, None, ("split", (((0, 1, 2), inner),)), ("split", (((0, 1, 3), inner),)),
                ("split", (((3, 4), ("split", (((0, 1, 2), one),))),)))

    def test_a_wrong_paper_in_any_row(self):
        for wrong in (None, (), ("split",), rings((RING, 3)), ("rings", None), 0, "split"):
            for rows in ((((0, 1, 2), wrong),), (((0, 1, 2), rings((RING, 2))), ((), wrong)),
                         (((), wrong), ((0, 1, 2), rings((RING, 2))))):
                self.no(TWO, None, ("split", rows))

    def test_a_part_more_or_less(self):
        row = ((0, 1, 2), rings((RING, 2)))
        self.no(TWO, None, ("split",), ("split", (), ()), ("split", None), ("split", []), ("split", [row]),
                ("split", row), ("split", {row: row}), ("split", ((row,),)), ("split", (row[:1],)),
                ("split", (row + (1,),)),
                ("split", (row[::-1],)), ("split", ([*row],)), ("split", (None,)), ("split", ((),)), ("Split", (row,)),
                ("splits", ()), ["split", (row,)])

    def test_two_thousand_rows(self):
        one = rings((RING, 2))
        rows = (((), NOTHING),) * 1000 + (((0, 1, 2), one),) + (((), ("split", ())),) * 1000
        self.shows(ODD, None, ("split", rows), 1)
        self.no(ODD, None, ("split", rows + (((0,), NOTHING),)), ("split", rows + (((), None),)))
        self.shows(great_web(), None, ("split", (((), NOTHING),) * 2000), 0)


class Cases(Checks):
    PAIR = (2, ((0, 1, "friend"), (0, 1, "foe")))

    def case(self, one, other, for_friends=10, for_foes=2):
        """With a sure friend tie, number 2, the foe tie breaks; with a sure foe tie the friend tie."""
        return ("case", one, other, rings((((0, 1), (2, 1)), for_foes)), rings((((0, 1), (2, 0)), for_friends)))

    def test_the_lesser_of_both(self):
        self.shows(self.PAIR, (5, 1), self.case(0, 1), 1)
        self.shows(self.PAIR, (5, 1), self.case(1, 0), 1)
        self.shows(self.PAIR, (5, 7), self.case(0, 1, 10, 14), 5)
        self.shows(self.PAIR, (7, 5), self.case(0, 1, 14, 10), 5)
        self.no(self.PAIR, (4, 1), self.case(0, 1))
        self.no(self.PAIR, (5, 1), self.case(0, 1, 10, 3))

    def test_friend_first_then_foe(self):
        word, one, other, first, second = self.case(0, 1)
        self.no(self.PAIR, (5, 5), (word, one, other, second, first), (word, one, other, first, first),
                (word, one, other, second, second))

    def test_one_place_twice_and_places_that_are_not_there(self):
        for one, other in ((0, 0), (1, 1), (0, 2), (2, 0), (-1, 0), (0, -1), (0, SIXTY), (False, 1), (0, True),
                           (0, None), ("0", 1), ((0,), 1), ([0], 1), (0, {1: 1})):
            self.no(self.PAIR, (5, 5), self.case(one, other), ("case", one, other, NOTHING, NOTHING))
        self.no((1, ()), None, ("case", 0, 0, NOTHING, NOTHING), ("case", 0, 1, NOTHING, NOTHING))
        self.shows((2, ()), None, ("case", 0, 1, NOTHING, NOTHING), 0)

    def test_both_papers_are_papers(self):
        for wrong in (None, (), 0, "", ("rings", None), rings((((0, 1), (2, 3)), 1)), ("case", 0, 1, NOTHING)):
            self.no(self.PAIR, None, ("case", 0, 1, NOTHING, wrong), ("case", 0, 1, wrong, NOTHING))

    def test_sure_ties_alone_with_great_times(self):
        # The same two places, sure friends and sure foes: no sides hold whatever goes.
        for times in (1, 2, 10 ** 40, 10 ** 40 + 1, SIXTY):
            inner = ("case", 0, 1, rings((((0, 1), (2, 3)), 2)), rings((((0, 1), (2, 1)), 2)))
            never = rings((((0, 1), (2, 3)), times))
            paper = ("case", 0, 1, ("case", 0, 1, NOTHING, never), ("case", 1, 0, never, NOTHING))
            self.shows(self.PAIR, None, paper, 0)
            self.no(self.PAIR, None, ("case", 0, 1, inner, never))
            self.shows(self.PAIR, None, ("case", 0, 1, ("case", 0, 1, self.foe_tie(), never),
                                         ("case", 0, 1, never, self.friend_tie())), 1)
            self.shows(self.PAIR, (SIXTY, SIXTY), ("case", 0, 1, (
                "case", 0, 1, rings((((0, 1), (2, 1)), 2 * SIXTY)), never), (
                "case", 0, 1, never, rings((((0, 1), (2, 0)), 2 * SIXTY)))), min(SIXTY, (times + 1) // 2))

    @staticmethod
    def foe_tie():
        return rings((((0, 1), (3, 1)), 2))

    @staticmethod
    def friend_tie():
        return rings((((0, 1), (3, 0)), 2))

    def test_a_sure_tie_has_no_limit_of_its_own(self):
        # Two ties of weight 3 break where their places are together; the sure tie stands in both rings.
        web = (2, ((0, 1, "foe"), (1, 0, "foe"), (0, 1, "friend")))
        both = rings((((0, 1), (3, 0)), 6), (((0, 1), (3, 1)), 6))
        one = rings((((0, 1), (3, 2)), 20))
        self.shows(web, (3, 3, 10), ("case", 0, 1, both, one), 6)

    def test_sure_ties_have_numbers_in_the_order_they_came(self):
        web = (3, ((0, 1, "foe"), (1, 2, "foe"), (0, 2, "foe")))
        # Sure ties 3 (between 0 and 1) and 4 (between 0 and 2).
        leaf = {
            ("friend", "friend"): rings((((0, 1), (3, 0)), 2), (((0, 2), (4, 2)), 2), (((0, 1, 2), (3, 1, 4)), 2)),
            ("friend", "foe"): rings((((0, 1), (3, 0)), 2)),
            ("foe", "friend"): rings((((2, 0), (4, 2)), 2)),
            ("foe", "foe"): rings((((1, 0, 2), (3, 4, 1)), 2)),
        }
        paper = ("case", 0, 1, ("case", 2, 0, leaf["friend", "friend"], leaf["friend", "foe"]),
                 ("case", 0, 2, leaf["foe", "friend"], leaf["foe", "foe"]))
        self.shows(web, None, paper, 1)
        word, one, other, first, second = paper
        # The other way about the numbers fit no more.
        self.no(web, None, (word, 0, 2, first, second),
                ("case", 0, 2, ("case", 0, 1, leaf["friend", "friend"], leaf["friend", "foe"]),
                 ("case", 0, 1, leaf["foe", "friend"], leaf["foe", "foe"])))
        # Numbers of sure ties that have not come, or come on another way.
        self.no(web, None, ("case", 0, 1, leaf["friend", "friend"], NOTHING), rings((((0, 1), (3, 0)), 2)),
                ("split", (((0, 1, 2), rings((((0, 1), (3, 0)), 2))),)))

    def test_sure_ties_go_into_splits_but_not_among_their_ties(self):
        foe, friend = rings((((0, 1), (2, 1)), 2)), rings((((0, 1), (2, 0)), 2))
        self.shows(self.PAIR, None, ("case", 0, 1, ("split", (((1,), foe),)), ("split", (((0,), friend),))), 1)
        self.no(self.PAIR, None, ("case", 0, 1, ("split", (((1, 2), foe),)), friend),
                ("case", 0, 1, ("split", (((0,), foe),)), friend),
                ("case", 0, 1, ("split", (((1,), foe), ((2,), NOTHING))), friend))

    def test_a_case_within_a_split(self):
        web = beside(self.PAIR, self.PAIR)
        first = ("case", 0, 1, rings((((0, 1), (4, 1)), 2)), rings((((0, 1), (4, 0)), 2)))
        second = ("case", 3, 2, rings((((2, 3), (4, 3)), 2)), rings((((2, 3), (4, 2)), 2)))
        self.shows(web, None, ("split", (((0, 1), first), ((2, 3), second))), 2)
        self.no(web, None, ("split", (((2, 3), first), ((0, 1), second))))

    def test_a_part_more_or_less(self):
        paper = self.case(0, 1)
        self.shows(self.PAIR, (5, 1), paper, 1)
        self.no(self.PAIR, (5, 1), paper[:4], paper + (NOTHING,), paper[1:], ("Case",) + paper[1:], ("",) + paper[1:],
                (None,) + paper[1:], (["case"],) + paper[1:], ("rings",) + paper[1:], ("split",) + paper[1:], [*paper],
                ("case", (0, 1), *paper[3:]), ("case", paper[1:]), ("case", ()), (paper,))

    def test_some_twenty_five_deep(self):
        for depth in (20, 25, 27):
            paper = NOTHING
            for level in range(depth):
                paper = ("case", 0, 1, paper, NOTHING) if level % 2 else ("case", 1, 0, NOTHING, paper)
            self.shows(self.PAIR, None, paper, 0)
            self.shows(great_web(), None, paper, 0)
            self.no((1, ()), None, paper)
        # All of them say friends, so that each way out but one has a ring of two sure ties.
        for depth in (2, 20, 25):
            number = 2 + depth - 1
            paper = ("case", 0, 1, rings((((0, 1), (number, 1)), 2)), rings((((0, 1), (2, number)), 2)))
            for level in range(depth - 2, 0, -1):
                paper = ("case", 0, 1, paper, rings((((0, 1), (2, 2 + level)), 2)))
            paper = ("case", 0, 1, paper, rings((((0, 1), (2, 0)), 2)))
            self.shows(self.PAIR, None, paper, 1)

    def test_many_cases(self):
        def full(depth):
            return NOTHING if depth == 0 else ("case", depth - 1, depth, full(depth - 1), full(depth - 1))
        self.shows(great_web(), None, full(10), 0)


class Told(Checks):
    def test_what_paper_of_tells_shows_what_least_mend_tells(self):
        for seed, web in enumerate(WEBS[:8] + small_webs(80)):
            for weights in (None, some_weights(web, seed), some_weights(web, seed + 1, GREAT)):
                self.shows(web, weights, paper_of(web, weights), least_mend(web, weights)[0])

    def test_great_ones(self):
        eight = [great_web(seed, many=8, ties=24) for seed in range(5)]
        for web in (great_web(3, many=8, ties=120), mixed_parts(*eight), great_holding_web()[0]):
            for weights in (None, some_weights(web, 1, GREAT)):
                self.shows(web, weights, paper_of(web, weights), least_mend(web, weights)[0])

    def test_turned_about(self):
        for seed in range(10):
            web = great_web(seed, many=7, ties=20)
            other = turned(web, some_places(web, seed))
            self.shows(other, None, paper_of(other), least_mend(web)[0])

    def renumbered_knot(self, knot, places, numbers, behind):
        """The paper with other numbers of places and ties; sure ties keep theirs."""
        def tie(number):
            return number if number >= behind else numbers[number]
        if knot[0] == "rings":
            return ("rings", tuple(((tuple(places[place] for place in ring[0]), tuple(map(tie, ring[1]))), times)
                                   for ring, times in knot[1]))
        if knot[0] == "split":
            return ("split", tuple((tuple(sorted(map(tie, ties))), self.renumbered_knot(paper, places, numbers, behind))
                                   for ties, paper in knot[1]))
        return ("case", places[knot[1]], places[knot[2]],
                *[self.renumbered_knot(paper, places, numbers, behind) for paper in knot[3:]])

    def test_numbered_otherwise(self):
        for seed in range(10):
            web = mixed_parts(great_web(seed, many=6, ties=15), ring_web(4, 3), great_web(seed + 1, many=5, ties=9))
            weights = some_weights(web, seed)
            other, places, numbers = renumbered(web, seed)
            paper = self.renumbered_knot(paper_of(web, weights), places, numbers, len(web[1]))
            self.shows(other, renumbered_weights(weights, numbers), paper, least_mend(web, weights)[0])

    def test_as_another_way_tells_of_changed_ones(self):
        chance = random.Random(5)
        found = 0
        for web in small_webs(30, places=5, ties=8) + [TWO, ODD]:
            weights = some_weights(web, 1, 3)
            least = least_slowly(web, weights)
            paper = paper_of(web, weights)
            parts = [None, True, False, (), [], {}, 0, 1, 2, -1, SIXTY, "rings", "split", "case", NOTHING, paper, RING,
                     ("split", ()), ("case", 0, 1, NOTHING, NOTHING), rings((RING, 2))]
            for turn in range(150):
                thing = changed(paper, chance, parts)
                if chance.random() < 0.3:
                    thing = changed(thing, chance, parts)
                told = shown_by(web, weights, thing)
                self.assertEqual(told, shown_slowly(web, weights, thing), thing)
                if told is not None:
                    self.assertIs(type(told), int)
                    # No paper, whoever wrote it, shows more than the least weight.
                    self.assertLessEqual(told, least)
                    found += thing != paper
        self.assertGreater(found, 100)


class Anything(Checks):
    def test_anything(self):
        for web in (ODD, TWO, (1, ()), great_web()):
            self.no(web, None, *plain_wrong())
            self.no(web, None, *[("rings", thing) for thing in plain_wrong()])
            self.no(web, None, *[("split", thing) for thing in plain_wrong()])
            self.no(web, None, *[("case", 0, 1, NOTHING, thing) for thing in plain_wrong()])
            self.no(web, None, *[("case", thing, 1, NOTHING, NOTHING) for thing in plain_wrong()
                                 if thing not in (0, 2) or isinstance(thing, bool)])
            self.no(web, None, *[(thing, ()) for thing in plain_wrong()])

    def test_each_part_of_another_kind(self):
        self.no(TWO, None, *spoiled(("split", (((0, 1, 2), rings((RING, 2))), ((3, 4), rings((RING_TWO, 1)))))))
        self.no(Cases.PAIR, (9, 9),
                *spoiled(("case", 0, 1, rings((((0, 1), (2, 1)), 2)), rings((((0, 1), (2, 0)), 2)))))

    def test_papers_of_another_web(self):
        self.no(ring_web(3, 2), None, rings((RING, 1)), paper_of(ODD))
        self.no((3, ()), None, paper_of(ODD))
        self.no((1, ()), None, paper_of(Cases.PAIR))

    def test_nothing_is_changed(self):
        for thing in plain_wrong() + [paper_of(TWO), ("split", [((0,), NOTHING)]), rings(([[0], {}], 1))]:
            assert_steady(self, shown_by, TWO, None, thing)
            assert_steady(self, shown_by, TWO, (1, 2, 3, 4, GREAT), thing)


if __name__ == "__main__":
    unittest.main()
