"""Promises 2, 3 and 24: the small checker of papers that no sides of k hold."""

import itertools
import random
import unittest

from friendfoe.several import least_several, several
from friendfoe.severalchecks import none_holds
from samples import (SIXTY, WEBS, about, assert_steady, assert_truth, beside, changed, full_web, great_web,
                     plain_wrong, renumbered, ring_web, small_webs, spoiled)

PAIR = (2, ((0, 1, "foe"),))
TRIANGLE = ring_web(3, 3)
FIVE = ring_web(5, 5)
ONE_FOE = (4, ((0, 1, "friend"), (1, 2, "friend"), (3, 0, "foe"), (2, 0, "foe")))
# Friends 0 and 1, 2 and 3, 4 and 5; each two of them foes, by some of their places.
FRIENDS = (7, ((0, 1, "friend"), (3, 2, "friend"), (4, 5, "friend"), (1, 2, "foe"), (5, 3, "foe"), (4, 0, "foe")))
# Put together, 0 and 2 are foes of 1, 3 and 4, of which 3 and 4 are foes; apart, 0 and 2 and 1 are three foes.
FIVE_PAPER = ("case", 0, 2, ("crowd", (0, 3, 4)), ("crowd", (0, 1, 2)))


def holds_slowly(web, k, thing):
    """The same by another way: word by word, the web with all sure ties put together anew at each knot."""
    if type(thing) is not tuple or not thing:
        return False
    near = {place: {place} for place in range(web[0])}
    for turn in range(web[0]):
        for one, other, kind in web[1]:
            if kind == "friend":
                near[one] = near[other] = near[one] | near[other]
    foes = [{one, other} for one, other, kind in web[1] if kind == "foe"]

    def place(part):
        return type(part) is int and 0 <= part < web[0]
    if thing[0] == "crowd" and len(thing) == 2:
        places = thing[1]
        if type(places) is not tuple or not all(map(place, places)) or list(places) != sorted(set(places)):
            return False
        return len(places) == k + 1 and all(
            near[one] != near[other] and any({a, b} in foes for a in near[one] for b in near[other])
            for one, other in itertools.combinations(places, 2))
    if thing[0] == "clash" and len(thing) == 3:
        word, one, other = thing
        return place(one) and place(other) and near[one] == near[other] and {one, other} in foes
    if thing[0] == "case" and len(thing) == 5:
        word, one, other, first, second = thing
        if not place(one) or not place(other) or one == other:
            return False
        return all(holds_slowly((web[0], web[1] + ((one, other, kind),)), k, paper)
                   for kind, paper in (("friend", first), ("foe", second)))
    return False


class Checks(unittest.TestCase):
    def yes(self, web, k, *things):
        for thing in things:
            assert_truth(self, none_holds(web, k, thing), True)

    def no(self, web, k, *things):
        for thing in things:
            assert_truth(self, none_holds(web, k, thing), False)


class Crowds(Checks):
    def test_ordinary(self):
        self.yes(PAIR, 1, ("crowd", (0, 1)))
        self.yes(TRIANGLE, 2, ("crowd", (0, 1, 2)))
        self.yes(TRIANGLE, 1, ("crowd", (0, 1)), ("crowd", (0, 2)), ("crowd", (1, 2)))
        self.yes(full_web(8), 7, ("crowd", tuple(range(8))))

    def test_just_one_more_than_k(self):
        for k in (1, 2, 3, 4, 20, 10 ** 40):
            for many in range(6):
                expected = many == k + 1
                assert_truth(self, none_holds(full_web(5), k, ("crowd", tuple(range(many)))), expected)
        self.yes(full_web(21), 20, ("crowd", tuple(range(21))))
        self.no(full_web(21), 20, ("crowd", tuple(range(20))))
        self.yes(full_web(16), 15, ("crowd", tuple(range(16))))

    def test_friends_by_any_place(self):
        for places in itertools.product((0, 1), (2, 3), (4, 5)):
            self.yes(FRIENDS, 2, ("crowd", places))
        for places in ((0, 1, 2), (0, 1, 4), (2, 3, 4), (0, 2, 6), (0, 4, 6), (0, 1, 6)):
            self.no(FRIENDS, 2, ("crowd", places))
        self.yes(FRIENDS, 1, ("crowd", (0, 2)), ("crowd", (1, 4)))
        self.no(FRIENDS, 1, ("crowd", (0, 1)), ("crowd", (4, 5)), ("crowd", (0, 6)))

    def test_places_of_the_same_friends_are_no_two(self):
        # A foe tie within friends leads from them to themselves.
        self.no(ring_web(2, 1), 1, ("crowd", (0, 1)))
        self.no(ONE_FOE, 1, ("crowd", (0, 2)))
        self.yes(ONE_FOE, 1, ("crowd", (0, 3)), ("crowd", (1, 3)), ("crowd", (2, 3)))

    def test_each_two_of_them(self):
        for missing in range(6):
            ties = full_web(4)[1]
            web = (4, ties[:missing] + ties[missing + 1:])
            self.no(web, 3, ("crowd", (0, 1, 2, 3)))
            web = (4, ties[:missing] + ((*ties[missing][:2], "friend"),) + ties[missing + 1:])
            self.no(web, 3, ("crowd", (0, 1, 2, 3)))
        self.yes(full_web(4), 3, ("crowd", (0, 1, 2, 3)))

    def test_places_twice_not_rising_or_not_there(self):
        for places in ((0, 2, 1), (2, 1, 0), (0, 0, 1), (0, 1, 1), (0, 1, 3), (-1, 0, 1), (0, 1, SIXTY), (0, 1, -1),
                       (False, 1, 2), (0, True, 2), (0, 1, None), (0, 1, "2"), (0, 1, (2,)), (0, 1, [2]), [0, 1, 2],
                       {0: 0, 1: 1, 2: 2}, None, "012", 3, ((0, 1, 2),), (), {}):
            self.no(TRIANGLE, 2, ("crowd", places))

    def test_a_part_more_or_less(self):
        self.no(TRIANGLE, 2, ("crowd",), ("crowd", 0, 1, 2), ("crowd", (0, 1, 2), ()), ("crowd", (0, 1, 2), None),
                ["crowd", (0, 1, 2)], ("crowd", [0, 1, 2]), ("Crowd", (0, 1, 2)), ("crowds", (0, 1, 2)),
                ((0, 1, 2), "crowd"), (("crowd", (0, 1, 2)),), (0, 1, 2), ("", (0, 1, 2)), (None, (0, 1, 2)),
                ("none", ("crowd", (0, 1, 2))), (["crowd"], (0, 1, 2)), ({}, (0, 1, 2)), ("clash", (0, 1, 2)),
                ("case", (0, 1, 2)))


class Clashes(Checks):
    def test_ordinary(self):
        for k in (1, 2, 20, 10 ** 40):
            self.yes(ONE_FOE, k, ("clash", 0, 2), ("clash", 2, 0))
            self.yes(ring_web(2, 1), k, ("clash", 0, 1), ("clash", 1, 0))

    def test_the_places_of_the_foe_tie_itself(self):
        self.no(ONE_FOE, 1, ("clash", 0, 1), ("clash", 1, 2), ("clash", 2, 1), ("clash", 0, 3), ("clash", 3, 0))
        self.no(TRIANGLE, 1, ("clash", 0, 1), ("clash", 1, 2))
        self.no((2, ((0, 1, "friend"),)), 1, ("clash", 0, 1))

    def test_places_of_other_kinds(self):
        for one, other in ((0, 0), (2, 2), (0, 4), (-2, 0), (0, -2), (False, 2), (0, None), ("0", 2), (0, "2"),
                           ((0,), 2), ([0], 2), (0, {}), (0, SIXTY)):
            self.no(ONE_FOE, 2, ("clash", one, other))
        self.no(ring_web(2, 1), 2, ("clash", 0, True), ("clash", False, 1))

    def test_a_part_more_or_less(self):
        self.no(ONE_FOE, 2, ("clash", 0), ("clash",), ("clash", 0, 2, 2), ("clash", (0, 2)), ("clash", 0, 2, None),
                ["clash", 0, 2], ("Clash", 0, 2), ("", 0, 2), (0, 2, "clash"), ("crowd", 0, 2), ("case", 0, 2),
                (("clash", 0, 2),), (None, 0, 2), (["clash"], 0, 2))


class Cases(Checks):
    def test_ordinary(self):
        self.yes(FIVE, 2, FIVE_PAPER)
        self.yes(FIVE, 2, ("case", 2, 0, *FIVE_PAPER[3:]))
        # The place that stands for friends is any of them.
        self.yes(FIVE, 2, ("case", 0, 2, ("crowd", (2, 3, 4)), FIVE_PAPER[4]))
        self.no(FIVE, 3, FIVE_PAPER)
        self.no(FIVE, 1, FIVE_PAPER)
        self.no(ring_web(4, 4), 2, ("case", 0, 2, ("crowd", (0, 1, 3)), ("crowd", (0, 1, 2))))

    def test_friend_first_then_foe(self):
        word, one, other, first, second = FIVE_PAPER
        self.no(FIVE, 2, (word, one, other, second, first), (word, one, other, first, first),
                (word, one, other, second, second), first, second)

    def test_sure_ties_clash(self):
        # Foes made friends clash, and friends made foes.
        self.yes(TRIANGLE, 2, ("case", 0, 1, ("clash", 0, 1), ("crowd", (0, 1, 2))))
        self.yes(TRIANGLE, 2, ("case", 1, 0, ("clash", 0, 1), ("crowd", (0, 1, 2))))
        self.no(TRIANGLE, 2, ("case", 0, 1, ("clash", 0, 2), ("crowd", (0, 1, 2))),
                ("case", 0, 1, ("crowd", (0, 1, 2)), ("crowd", (0, 1, 2))))
        web = (4, TRIANGLE[1] + ((3, 0, "friend"),))
        self.yes(web, 2, ("case", 0, 3, ("crowd", (1, 2, 3)), ("clash", 3, 0)))
        self.no(web, 2, ("case", 0, 3, ("clash", 3, 0), ("crowd", (1, 2, 3))))
        # A sure foe tie joins its own places alone.
        web = (3, ((0, 1, "friend"), (1, 2, "friend")))
        self.no(web, 1, ("case", 0, 2, ("clash", 0, 2), ("clash", 0, 2)))
        self.no(web, 1, ("case", 0, 2, ("case", 0, 1, ("clash", 0, 2), ("clash", 0, 1)), ("clash", 0, 2)))

    def test_sure_friends_and_then_sure_foes(self):
        # First friends, then foes: they clash, on whichever way they came.
        paper = ("case", 0, 1, ("case", 0, 1, ("clash", 0, 1), ("clash", 0, 1)),
                 ("case", 0, 1, ("clash", 0, 1), ("crowd", (0, 1))))
        self.yes(PAIR, 1, paper)
        self.no((2, ()), 1, paper)
        self.no((2, ()), 1, ("case", 0, 1, ("case", 0, 1, ("crowd", (0, 1)), ("clash", 0, 1)),
                             ("case", 0, 1, ("clash", 0, 1), ("crowd", (0, 1)))))

    def test_friends_of_friends(self):
        # Sure friend ties lead on from friends to friends, and sure foe ties part all of them.
        web = (7, ((0, 1, "friend"), (2, 3, "friend"), (1, 4, "foe"), (3, 5, "foe"), (4, 5, "foe"), (1, 6, "foe"),
                   (3, 6, "foe")))
        together, apart = ("crowd", (0, 4, 5)), ("crowd", (1, 3, 6))
        for one, other in itertools.product((0, 1), (2, 3)):
            self.yes(web, 2, ("case", one, other, together, apart), ("case", other, one, together, apart))
        self.no(web, 2, together, apart, ("case", 0, 2, apart, together), ("case", 0, 1, together, apart))

    def test_sure_ties_of_one_way_are_not_there_on_the_other(self):
        self.no(FIVE, 2, ("case", 0, 2, FIVE_PAPER[4], FIVE_PAPER[3]))
        self.no((3, ((0, 1, "foe"), (1, 2, "foe"))), 2, ("case", 0, 2, ("crowd", (0, 1, 2)), ("crowd", (0, 1, 2))))

    def test_both_papers_are_papers(self):
        for wrong in (None, (), 0, "", "clash", ("crowd", None), ("clash", 0, 2), ("case", 0, 2, FIVE_PAPER[3]),
                      FIVE_PAPER[:3]):
            self.no(FIVE, 2, (*FIVE_PAPER[:4], wrong), (*FIVE_PAPER[:3], wrong, FIVE_PAPER[4]))

    def test_one_place_twice_and_places_that_are_not_there(self):
        full = ("crowd", (0, 1, 2))
        self.yes(TRIANGLE, 2, full)
        for one, other in ((0, 0), (2, 2), (0, 3), (3, 0), (-1, 0), (0, -1), (0, SIXTY), (False, 1), (0, True),
                           (0, None), ("0", 1), ((0,), 1), ([0], 1), (0, {1: 1})):
            self.no(TRIANGLE, 2, ("case", one, other, full, full), ("case", one, other, ("clash", 0, 1), full))

    def test_a_part_more_or_less(self):
        self.no(FIVE, 2, FIVE_PAPER[:4], FIVE_PAPER + (FIVE_PAPER[4],), FIVE_PAPER[1:], ("Case",) + FIVE_PAPER[1:],
                ("",) + FIVE_PAPER[1:], (None,) + FIVE_PAPER[1:], [*FIVE_PAPER], ("case", (0, 2), *FIVE_PAPER[3:]),
                ("case", FIVE_PAPER[1:]), (FIVE_PAPER,), ("none", FIVE_PAPER), (["case"],) + FIVE_PAPER[1:],
                ("crowd",) + FIVE_PAPER[1:], ("clash",) + FIVE_PAPER[1:])

    def test_deep_ones(self):
        for depth in (20, 25, 28):
            paper = ("crowd", (0, 1, 2))
            for level in range(depth):
                paper = ("case", 1, 0, ("clash", 0, 1), paper)
            self.yes(TRIANGLE, 2, paper)
            self.no(TRIANGLE, 3, paper)
            self.no(ring_web(3, 2), 2, paper)

    def test_many_cases(self):
        web = beside(TRIANGLE, (37, ()))

        def full(depth):
            if depth == 0:
                return ("crowd", (0, 1, 2))
            return ("case", depth + 2, depth + 3, full(depth - 1), full(depth - 1))
        self.yes(web, 2, full(11))
        self.no(web, 3, full(11))


class Whole(Checks):
    def test_as_another_way_tells_of_changed_ones(self):
        chance = random.Random(6)
        found = 0
        webs = [FIVE, TRIANGLE, FRIENDS, ONE_FOE, ring_web(7, 7), full_web(4)] + small_webs(20, places=5, ties=7)
        for web in webs:
            told = least_several(web)
            k = max(1, told[1] - 1) if told[0] == "least" else 2
            paper = told[3] if told[0] == "least" and told[3] else ("clash", 0, 2)
            parts = [None, True, False, (), [], {}, 0, 1, 2, -1, SIXTY, "crowd", "clash", "case", paper, (0, 1, 2),
                     (0, 1), ("clash", 0, 1), ("clash", 0, 2), ("crowd", (0, 1)),
                     ("case", 0, 1, ("clash", 0, 1), paper)]
            for turn in range(150):
                thing = changed(paper, chance, parts)
                if chance.random() < 0.3:
                    thing = changed(thing, chance, parts)
                for number in (1, 2, k):
                    holds = none_holds(web, number, thing)
                    assert_truth(self, holds, holds_slowly(web, number, thing))
                    if holds:
                        # Whoever wrote it, there are no such sides.
                        self.assertNotEqual(several(web, number)[0], "sides")
                        found += thing != paper
        self.assertGreater(found, 100)

    def test_numbered_otherwise(self):
        def renamed(paper, places):
            if paper[0] == "crowd":
                return ("crowd", tuple(sorted(places[place] for place in paper[1])))
            if paper[0] == "clash":
                return ("clash", places[paper[1]], places[paper[2]])
            return ("case", places[paper[1]], places[paper[2]], *[renamed(part, places) for part in paper[3:]])
        for seed in range(20):
            web = great_web(seed, ("foe",), many=8, ties=16)
            word, k, sides, paper = least_several(web)
            other, places, numbers = renumbered(web, seed)
            self.yes(web, k - 1, paper)
            self.yes(other, k - 1, renamed(paper, places))
            self.yes(about(web), k - 1, paper)
            self.no(web, k, paper)

    def test_anything(self):
        for web in (FIVE, PAIR, ONE_FOE, (1, ()), great_web()):
            for k in (1, 2, 10 ** 40):
                self.no(web, k, *plain_wrong())
                self.no(web, k, *[("crowd", thing) for thing in plain_wrong()])
                self.no(web, k, *[("clash", 0, thing) for thing in plain_wrong() if thing != 2 and thing != 1])
                self.no(web, k, *[("case", 0, 1, thing, thing) for thing in plain_wrong()])
        self.no(ONE_FOE, 2, *[("case", thing, 3, ("clash", 0, 2), ("clash", 0, 2)) for thing in plain_wrong()
                              if thing not in (0, 1, 2) or isinstance(thing, bool)])

    def test_each_part_of_another_kind(self):
        self.no(FIVE, 2, *spoiled(FIVE_PAPER))
        self.no(ONE_FOE, 2, *spoiled(("clash", 0, 2)))
        self.no(TRIANGLE, 2, *spoiled(("crowd", (0, 1, 2))))

    def test_where_sides_hold_no_paper_does(self):
        things = [FIVE_PAPER, ("crowd", (0, 1, 2)), ("clash", 0, 1), ("crowd", (0, 1)), ("crowd", (0,)), ("crowd", ())]
        for web in WEBS:
            if web[0] > 2 and not any(kind == "foe" for one, other, kind in web[1]):
                self.no(web, 1, *things)

    def test_nothing_is_changed(self):
        for thing in plain_wrong() + [FIVE_PAPER, ("crowd", [0, 1]), ("case", 0, 1, [], {})]:
            assert_steady(self, none_holds, FIVE, 2, thing)


if __name__ == "__main__":
    unittest.main()
