"""Promises 2, 3, 26 and 27: broken weight, leans, and settling."""

import itertools
import random
import unittest

from friendfoe.errors import TooMany, WebError
from friendfoe.mending import mend_weight
from friendfoe.moving import broken_weight, is_settled, leans, settled
from friendfoe.siding import broken_by, is_sides
from friendfoe.turning import turned
from samples import (WEBS, assert_plain, assert_steady, assert_truth, great_holding_web, great_web, plain_wrong,
                     renumbered, renumbered_weights, ring_web, small_webs, some_places, some_weights, spoiled)

GREAT = 10 ** 30
WEB = (4, ((0, 1, "foe"), (1, 2, "friend"), (0, 2, "foe")))


def pairs_of_foes(many):
    """So many parts, each of two foes, and sides that break all ties."""
    return (2 * many, tuple((2 * at + 1, 2 * at, "foe") for at in range(many))), (0,) * (2 * many)


def some_sides(web, seed):
    chance = random.Random(seed)
    return tuple(chance.randrange(2) for place in range(web[0]))


def weight(weights, tie):
    return 1 if weights is None else weights[tie]


def breaks(sides, one, other, kind):
    return sides[one] == sides[other] if kind == "foe" else sides[one] != sides[other]


def broken_slowly(web, weights, sides):
    return sum(weight(weights, number) for number, tie in enumerate(web[1]) if breaks(sides, *tie))


def lean_slowly(web, weights, sides, place):
    """By how much the broken weight is less where the place is moved over."""
    moved = sides[:place] + (1 - sides[place],) + sides[place + 1:]
    return broken_slowly(web, weights, sides) - broken_slowly(web, weights, moved)


def settled_slowly(web, weights, sides):
    """(sides, places), however many these are."""
    places = []
    while True:
        told = [lean_slowly(web, weights, sides, place) for place in range(web[0])]
        if max(told) <= 0:
            return sides, tuple(places)
        place = min(place for place in range(web[0]) if told[place] == max(told))
        sides = sides[:place] + (1 - sides[place],) + sides[place + 1:]
        places.append(place)


def asked(webs):
    """(web, weights, sides) of all sorts."""
    for seed, web in enumerate(webs):
        for weights in (None, some_weights(web, seed), some_weights(web, seed, GREAT)):
            yield web, weights, some_sides(web, seed)


class Broken(unittest.TestCase):
    def test_ordinary(self):
        self.assertEqual(broken_weight(WEB, None, (0, 0, 0, 0)), 2)
        self.assertEqual(broken_weight(WEB, (5, 7, GREAT), (0, 0, 0, 0)), GREAT + 5)
        self.assertEqual(broken_weight(WEB, (5, 7, GREAT), (0, 1, 0, 0)), GREAT + 7)
        self.assertEqual(broken_weight(WEB, (5, 7, GREAT), (0, 1, 1, 0)), 0)

    def test_no_ties(self):
        for many in (1, 40):
            self.assertEqual(broken_weight((many, ()), None, (0,) * many), 0)
            self.assertEqual(broken_weight((many, ()), (), (1,) * many), 0)

    def test_all_sorts(self):
        for web, weights, sides in asked(WEBS + small_webs(60)):
            told = broken_weight(web, weights, sides)
            self.assertIs(type(told), int)
            self.assertEqual(told, broken_slowly(web, weights, sides))
            self.assertEqual(told, mend_weight(weights, broken_by(web, sides)))

    def test_nothing_is_changed(self):
        for web, weights, sides in asked(WEBS):
            assert_steady(self, broken_weight, web, weights, sides)


class Leans(unittest.TestCase):
    def test_ordinary(self):
        self.assertEqual(leans(WEB, None, (0, 0, 0, 0)), (2, 0, 0, 0))
        self.assertEqual(leans(WEB, (5, 7, GREAT), (0, 0, 0, 0)), (GREAT + 5, -2, GREAT - 7, 0))
        self.assertEqual(leans(WEB, (5, 7, 9), (0, 1, 1, 0)), (-14, -12, -16, 0))

    def test_places_without_ties(self):
        for many in (1, 3, 40):
            self.assertEqual(leans((many, ()), None, (1,) * many), (0,) * many)
            self.assertEqual(leans((many, ()), (), (0,) * many), (0,) * many)
        self.assertEqual(leans((4, ((3, 1, "friend"),)), (6,), (0, 1, 0, 0)), (0, 6, 0, 6))

    def test_two_ties_of_the_same_places(self):
        self.assertEqual(leans(ring_web(2, 1), (5, 3), (0, 0)), (2, 2))
        self.assertEqual(leans(ring_web(2, 1), (5, 3), (0, 1)), (-2, -2))

    def test_moved_over_the_broken_weight_is_less_by_it(self):
        for web, weights, sides in asked(WEBS + small_webs(60)):
            told = leans(web, weights, sides)
            assert_plain(self, told)
            self.assertEqual(told, tuple(lean_slowly(web, weights, sides, place) for place in range(web[0])))

    def test_nothing_is_changed(self):
        for web, weights, sides in asked(WEBS):
            assert_steady(self, leans, web, weights, sides)


class Settled(unittest.TestCase):
    def told(self, web, weights, sides):
        """What is told is as another way tells, and holds in itself."""
        told = settled(web, weights, sides)
        assert_plain(self, told)
        self.assertEqual(told, settled_slowly(web, weights, sides))
        end, places = told
        self.assertTrue(is_sides(web, end))
        assert_truth(self, is_settled(web, weights, end), True)
        assert_truth(self, is_settled(web, weights, sides), places == ())
        before = broken_weight(web, weights, sides)
        for place in places:
            sides = sides[:place] + (1 - sides[place],) + sides[place + 1:]
            self.assertLess(broken_weight(web, weights, sides), before)
            before = broken_weight(web, weights, sides)
        self.assertEqual(sides, end)
        return places

    def refused(self, web, weights, sides):
        with self.assertRaises(TooMany) as told:
            settled(web, weights, sides)
        self.assertIs(type(told.exception), TooMany)
        self.assertIsInstance(told.exception, WebError)

    def test_ordinary(self):
        self.assertEqual(settled(WEB, None, (0, 0, 0, 0)), ((1, 0, 0, 0), (0,)))
        self.assertEqual(settled(WEB, None, (0, 1, 1, 0)), ((0, 1, 1, 0), ()))
        self.assertEqual(settled(WEB, (1, 1, 5), (0, 0, 0, 0)), ((1, 0, 0, 0), (0,)))
        self.assertEqual(settled(WEB, (5, 7, GREAT), (0, 1, 0, 1)), ((0, 1, 1, 1), (2,)))

    def test_no_ties(self):
        for many in (1, 40):
            for side in (0, 1):
                self.assertEqual(settled((many, ()), None, (side,) * many), ((side,) * many, ()))
                assert_truth(self, is_settled((many, ()), None, (side,) * many), True)

    def test_a_lean_of_0_is_settled(self):
        web = (3, ((0, 1, "foe"), (1, 2, "friend")))
        self.assertEqual(leans(web, None, (0, 0, 1)), (1, 2, 1))
        self.assertEqual(leans(web, (2, 2), (0, 0, 0)), (2, 0, -2))
        square = ring_web(4, 1)
        self.assertEqual(leans(square, None, (0, 0, 0, 0)), (0, 0, -2, -2))
        assert_truth(self, is_settled(square, None, (0, 0, 0, 0)), True)
        self.assertEqual(settled(square, None, (0, 0, 0, 0)), ((0, 0, 0, 0), ()))
        assert_truth(self, is_settled(square, (2, 1, 2, 1), (0, 0, 0, 0)), False)
        self.assertEqual(leans(square, (2, 1, 2, 1), (0, 0, 0, 0)), (1, 1, -3, -3))

    def test_of_several_greatest_leans_the_least_place(self):
        for many in (2, 5, 16):
            web, sides = pairs_of_foes(many)
            self.assertEqual(self.told(web, None, sides), tuple(range(0, 2 * many, 2)))
            self.assertEqual(self.told(web, (GREAT,) * many, sides), tuple(range(0, 2 * many, 2)))

    def test_the_greatest_lean_first(self):
        web, sides = pairs_of_foes(3)
        self.assertEqual(self.told(web, (1, 3, 2), sides), (2, 4, 0))
        self.assertEqual(self.told(web, (1, GREAT, GREAT - 1), sides), (2, 4, 0))
        self.assertEqual(self.told(web, (5, 5, 9), sides), (4, 0, 2))

    def test_a_place_moved_there_and_back(self):
        found = 0
        for seed in range(300):
            web = great_web(seed, many=7, ties=14)
            places = self.told(web, some_weights(web, seed, 9), some_sides(web, seed))
            found += len(places) != len(set(places))
        self.assertGreater(found, 0)

    def test_sixteen_moves_and_seventeen(self):
        for weights in (None, GREAT):
            for many in (15, 16):
                web, sides = pairs_of_foes(many)
                self.assertEqual(len(self.told(web, weights and (weights,) * many, sides)), many)
            for many in (17, 18, 20):
                web, sides = pairs_of_foes(many)
                self.refused(web, weights and (weights,) * many, sides)
        # From sides ahead of which one has been moved, one move less is needed.
        web, sides = pairs_of_foes(17)
        self.assertEqual(len(self.told(web, None, (1,) + sides[1:])), 16)
        assert_truth(self, is_settled(web, None, sides), False)

    def test_great_weights_are_not_gone_through_by_ones(self):
        for seed in range(20):
            web = great_web(seed, many=12, ties=40)
            self.told(web, some_weights(web, seed, GREAT), some_sides(web, seed))

    def test_small_webs(self):
        for web, weights, sides in asked(WEBS[:8] + small_webs(100)):
            self.told(web, weights, sides)

    def test_all_sides_of_a_web(self):
        web = great_web(5, many=7, ties=16)
        for sides in itertools.product((0, 1), repeat=7):
            self.told(web, None, sides)
            self.told(web, some_weights(web, 2), sides)

    def test_great_webs(self):
        told = set()
        for seed in range(25):
            web = great_web(seed)
            for weights in (None, some_weights(web, seed, GREAT)):
                sides = some_sides(web, seed)
                many = len(settled_slowly(web, weights, sides)[1])
                told.add(many > 16)
                if many > 16:
                    self.refused(web, weights, sides)
                else:
                    self.told(web, weights, sides)
        self.assertIn(False, told)

    def test_settled_sides_needn_t_be_the_least(self):
        # A ring of friends, in two halves: no place alone makes it less.
        web = ring_web(6, 0)
        self.assertEqual(settled(web, None, (0, 0, 0, 1, 1, 1)), ((0, 0, 0, 1, 1, 1), ()))
        self.assertEqual(broken_weight(web, None, (0, 0, 0, 1, 1, 1)), 2)

    def test_where_sides_hold(self):
        web, sides = great_holding_web()
        self.assertEqual(settled(web, None, sides), (sides, ()))
        assert_truth(self, is_settled(web, None, sides), True)

    def test_turned_about(self):
        # Turned at places, the sides that are others there break the same.
        for seed in range(20):
            web, places = great_web(seed, many=8, ties=18), some_places((8, ()), seed)
            weights, sides = some_weights(web, seed), some_sides(web, seed)
            other = tuple(1 - side if place in places else side for place, side in enumerate(sides))
            self.assertEqual(broken_weight(turned(web, places), weights, other), broken_weight(web, weights, sides))
            self.assertEqual(leans(turned(web, places), weights, other), leans(web, weights, sides))
            self.assertEqual(settled(turned(web, places), weights, other)[1], settled(web, weights, sides)[1])

    def test_numbered_otherwise(self):
        for seed in range(20):
            web = great_web(seed, many=8, ties=18)
            weights, sides = some_weights(web, seed, GREAT), some_sides(web, seed)
            other, places, numbers = renumbered(web, seed)
            moved = [None] * 8
            for place, at in enumerate(places):
                moved[at] = sides[place]
            others = renumbered_weights(weights, numbers), tuple(moved)
            self.assertEqual(broken_weight(other, *others), broken_weight(web, weights, sides))
            told = leans(other, *others)
            self.assertEqual(tuple(told[at] for at in places), leans(web, weights, sides))
            self.assertIs(is_settled(other, *others), is_settled(web, weights, sides))

    def test_what_is_no_sides_is_not_settled(self):
        for thing in plain_wrong() + list(spoiled((0, 1, 1, 0))) + [(0, 1, 1), (0, 1, 1, 0, 0), (0, 1, 2, 0)]:
            assert_truth(self, is_settled(WEB, None, thing), False)

    def test_nothing_is_changed(self):
        for web, weights, sides in asked(WEBS[:8]):
            assert_steady(self, settled, web, weights, sides)
            assert_steady(self, is_settled, web, weights, sides)


if __name__ == "__main__":
    unittest.main()
