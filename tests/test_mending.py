"""Promises 2, 3 and 17: mends, and the least weight."""

import itertools
import unittest

from friendfoe.errors import TooMany, WebError
from friendfoe.mending import least_mend, mend_holds, mend_weight
from friendfoe.siding import broken_by, sides_of
from friendfoe.turning import turned
from samples import (SIXTY, WEBS, all_choices, assert_plain, assert_steady, assert_truth, beside, full_web,
                     great_holding_web, great_web, least_slowly, mixed_parts, plain_wrong, renumbered,
                     ring_web, small_webs, some_places, some_weights, spoiled)

WEB = (5, ((0, 1, "foe"), (1, 2, "foe"), (2, 0, "foe"), (3, 4, "foe"), (4, 3, "friend")))
GREAT = 10 ** 30


class Holds(unittest.TestCase):
    def no(self, web, *things):
        for thing in things:
            assert_truth(self, mend_holds(web, thing), False)

    def test_ordinary(self):
        for ties in ((0, 3), (0, 4), (1, 3), (2, 4), (0, 1, 3), (0, 1, 2, 3, 4), (2, 3, 4)):
            assert_truth(self, mend_holds(WEB, ties), True)
        self.no(WEB, (), (0,), (3,), (0, 1), (3, 4), (0, 1, 2))

    def test_no_ties(self):
        for many in (1, 2, 40):
            assert_truth(self, mend_holds((many, ()), ()), True)
            self.no((many, ()), (0,), (-1,), (1,))

    def test_where_sides_hold(self):
        web = ring_web(4, 2)
        for ties in all_choices(4):
            assert_truth(self, mend_holds(web, ties), True)

    def test_all_choices_of_small_webs(self):
        for web in WEBS[:8] + small_webs(60, places=5, ties=7):
            broken = [set(broken_by(web, sides)) for sides in itertools.product((0, 1), repeat=web[0])]
            for ties in all_choices(len(web[1])):
                assert_truth(self, mend_holds(web, ties), any(row <= set(ties) for row in broken))

    def test_forty_places(self):
        for web in (great_web(), great_web(2), great_holding_web()[0]):
            for sides in ((0,) * 40, (0, 1) * 20, (0, 0, 1, 1) * 10):
                broken = broken_by(web, sides)
                assert_truth(self, mend_holds(web, broken), True)
            assert_truth(self, mend_holds(web, tuple(range(120))), True)
            assert_truth(self, mend_holds(web, ()), sides_of(web) is not None)
        self.no(great_web(), (0, 1, 2))

    def test_numbers_twice_not_rising_or_not_there(self):
        self.no(WEB, (3, 0), (0, 0, 3), (0, 3, 3), (0, 3, 0), (0, 3, 5), (-1, 0, 3), (0, 3, -1), (-5, -2), (0, -2),
                (0, 3, SIXTY), (-SIXTY, 0, 3), (4, 3, 2, 1, 0), (0, 1, 2, 3, 4, 5), tuple(range(20000)))

    def test_truths_are_no_numbers(self):
        self.no(WEB, (False, 3), (True, 3), (0, True, 3), (False, True, 3), True, False)
        self.no(ring_web(2, 1), (False,), (True,), (0, True))

    def test_a_part_more_or_less(self):
        self.no(WEB, ((0, 3),), ((0, 3), ()), ((0,), (3,)), (0, 3, None), (None, 0, 3), (0, 3, ()), ("mend", (0, 3)),
                (2, (0, 3)), (0, (3,)), ((0, 3), None))

    def test_anything(self):
        for web in (WEB, ring_web(2, 1), great_web()):
            self.no(web, *plain_wrong())
        for web in ((1, ()), great_holding_web()[0], ring_web(3, 2)):
            self.no(web, *plain_wrong())
            self.no(web, *[(thing,) for thing in plain_wrong() if thing not in (0, 1, 2) or isinstance(thing, bool)])
            assert_truth(self, mend_holds(web, ()), True)
        self.no(WEB, *spoiled((0, 3)))
        self.no(ring_web(3, 2), *spoiled((0, 2)))
        self.no(WEB, [0, 3], {0: 3}, {0: 0, 3: 3}, "03", "(0, 3)", "0 3", None, [(0, 3)], ([0, 3],))

    def test_nothing_is_changed(self):
        for thing in plain_wrong() + [(0, 3), (0,), [0, 3], ([0], 3)]:
            assert_steady(self, mend_holds, WEB, thing)


class Weight(unittest.TestCase):
    def test_ordinary(self):
        weights = (5, 1, GREAT, 7)
        self.assertEqual(mend_weight(weights, ()), 0)
        self.assertEqual(mend_weight(weights, (1,)), 1)
        self.assertEqual(mend_weight(weights, (0, 3)), 12)
        self.assertEqual(mend_weight(weights, (0, 1, 2, 3)), GREAT + 13)
        self.assertEqual(mend_weight((GREAT,) * 120, tuple(range(120))), 120 * GREAT)

    def test_none(self):
        self.assertEqual(mend_weight(None, ()), 0)
        self.assertEqual(mend_weight(None, (2, 5, 100)), 3)

    def test_kinds_and_nothing_is_changed(self):
        for handed in ((None, ()), (None, (1,)), ((3, 4), (0, 1))):
            self.assertIs(type(mend_weight(*handed)), int)
            assert_steady(self, mend_weight, *handed)


class Least(unittest.TestCase):
    def told(self, web, weights, expected):
        """The weight is told with a mend of it."""
        told = least_mend(web, weights)
        assert_plain(self, told)
        weight, ties = told
        self.assertEqual(weight, expected)
        assert_truth(self, mend_holds(web, ties), True)
        self.assertEqual(mend_weight(weights, ties), weight)
        self.assertEqual(ties, tuple(sorted(set(ties))))
        return ties

    def too_many(self, web, weights=None):
        for handed in ((web,), (web, weights), (web, (3,) * len(web[1]))):
            with self.assertRaises(TooMany) as told:
                least_mend(*handed)
            self.assertIs(type(told.exception), TooMany)
            self.assertIsInstance(told.exception, WebError)

    def test_ordinary(self):
        self.told(WEB, None, 2)
        self.assertEqual(self.told(WEB, (3, 2, 9, 5, 8), 7), (1, 3))
        self.assertEqual(self.told(WEB, (3, 4, 2, 9, 8), 10), (2, 4))

    def test_where_sides_hold(self):
        for web in ((1, ()), (40, ()), ring_web(4, 2), ring_web(40, 40), great_holding_web()[0]):
            self.assertEqual(least_mend(web), (0, ()))
            self.assertEqual(least_mend(web, None), (0, ()))
            self.assertEqual(least_mend(web, (GREAT,) * len(web[1])), (0, ()))

    def test_weights_none_and_left_out(self):
        for web in WEBS[:8] + small_webs(30):
            self.assertEqual(least_mend(web), least_mend(web, None))
            self.assertEqual(least_mend(web)[0], least_mend(web, (1,) * len(web[1]))[0])

    def test_ties_of_the_same_places(self):
        web = (2, ((0, 1, "foe"), (1, 0, "friend"), (0, 1, "foe"), (0, 1, "friend"), (1, 0, "foe")))
        self.assertEqual(self.told(web, None, 2), (1, 3))
        self.assertEqual(self.told(web, (1, 9, 1, 9, 1), 3), (0, 2, 4))
        # Both break as much: any one may be told.
        self.assertIn(self.told(web, (5, 7, 1, 2, 3), 9), ((1, 3), (0, 2, 4)))
        self.assertEqual(self.told(web, (GREAT, GREAT, 1, 1, 1), GREAT + 1), (1, 3))

    def test_great_weights(self):
        web = ring_web(3, 3)
        self.assertEqual(self.told(web, (GREAT, GREAT - 1, GREAT), GREAT - 1), (1,))
        self.assertEqual(self.told(web, (GREAT, GREAT, 1), 1), (2,))
        self.told(web, (GREAT,) * 3, GREAT)
        full = full_web(8)
        self.told(full, (GREAT,) * 28, 12 * GREAT)

    def test_full_webs(self):
        for many, least in ((3, 1), (4, 2), (5, 4), (6, 6), (7, 9), (8, 12)):
            self.told(full_web(many), None, least)

    def test_no_sides_break_less(self):
        for seed, web in enumerate(WEBS[:8] + small_webs(200)):
            for weights in (None, some_weights(web, seed), some_weights(web, seed + 1, GREAT)):
                self.told(web, weights, least_slowly(web, weights))

    def test_no_sides_of_eight_places_break_less(self):
        for seed in range(12):
            web = great_web(seed, many=8, ties=10 + 10 * seed)
            for weights in (None, some_weights(web, seed), some_weights(web, seed, GREAT)):
                self.told(web, weights, least_slowly(web, weights))

    def test_parts_amid_one_another(self):
        for seed in range(20):
            web = mixed_parts(ring_web(3, 1), ring_web(2, 1), ring_web(4, 2), (1, ()), full_web(4), seed=seed)
            self.told(web, None, 4)
            weights = some_weights(web, seed)
            self.told(web, weights, least_slowly(web, weights))

    def test_eight_places_and_nine(self):
        self.told(ring_web(8, 1), None, 1)
        self.told(ring_web(8, 7), (9, 8, 7, 6, 5, 6, 7, 8), 5)
        self.too_many(ring_web(9, 1))
        self.too_many(full_web(9))
        self.told(ring_web(9, 2), None, 0)
        self.too_many(great_web())
        # A ring of two, and seven places more that hang on it.
        tail = tuple((place, place + 1, "friend") for place in range(1, 8))
        self.too_many((9, ring_web(2, 1)[1] + tail))
        self.told((9, ring_web(2, 1)[1] + tail[:6]), None, 1)

    def test_too_many_in_any_one_part(self):
        for webs in ((ring_web(9, 1), ring_web(3, 1)), (ring_web(3, 1), ring_web(9, 1)),
                     (ring_web(20, 2), ring_web(9, 3), (1, ()))):
            self.too_many(beside(*webs))
            self.too_many(mixed_parts(*webs))

    def test_a_great_part_without_an_odd_ring(self):
        great, sides = great_holding_web(3, many=30, ties=90)
        for seed in range(5):
            web = mixed_parts(great, ring_web(3, 1), ring_web(2, 1), full_web(5), seed=seed)
            self.told(web, None, 6)
            self.told(web, (GREAT,) * len(web[1]), 6 * GREAT)
        great = great_holding_web(4, many=40, ties=110)[0]
        self.told(beside(great, full_web(4)), None, 2)

    def test_many_parts_of_eight_places(self):
        for seed in range(5):
            webs = [great_web(seed * 10 + at, many=8, ties=24) for at in range(5)]
            expected = sum(least_slowly(web, None) for web in webs)
            self.told(mixed_parts(*webs, seed=seed), None, expected)
        many = [full_web(8)] * 40
        self.told(beside(*many), None, 480)

    def test_numbered_or_turned_otherwise(self):
        for seed in range(15):
            web = great_web(seed, many=8, ties=25)
            weights = some_weights(web, seed)
            weight = least_slowly(web, weights)
            self.told(turned(web, some_places(web, seed)), weights, weight)
            other, places, numbers = renumbered(web, seed)
            moved = [None] * 25
            for number, at in enumerate(numbers):
                moved[at] = weights[number]
            self.told(other, tuple(moved), weight)

    def test_nothing_is_changed(self):
        for web in WEBS[:8] + [full_web(8)]:
            assert_steady(self, least_mend, web)
            assert_steady(self, least_mend, web, (GREAT,) * len(web[1]))


if __name__ == "__main__":
    unittest.main()
