"""Promise 7: sides."""

import itertools
import unittest

from friendfoe.parting import parts_of
from friendfoe.siding import broken_by, is_sides, sides_hold, sides_of
from samples import (SIXTY, WEBS, assert_steady, assert_truth, great_holding_web, great_web, plain_wrong, small_webs,
                     spoiled)

WEB = (4, ((0, 1, "friend"), (1, 2, "foe"), (2, 0, "foe"), (0, 1, "friend")))
ODD = (3, ((0, 1, "foe"), (1, 2, "foe"), (2, 0, "foe")))


def all_sides(web):
    return itertools.product((0, 1), repeat=web[0])


def broken_slowly(web, sides):
    return tuple(number for number, (one, other, kind) in enumerate(web[1])
                 if {"friend": sides[one] != sides[other], "foe": sides[one] == sides[other]}[kind])


class Sides(unittest.TestCase):
    def test_are_sides(self):
        for sides in all_sides(WEB):
            assert_truth(self, is_sides(WEB, sides), True)
        assert_truth(self, is_sides((1, ()), (0,)), True)
        assert_truth(self, is_sides(great_web(), (0, 1) * 20), True)

    def test_as_many_as_places(self):
        for sides in ((), (0,), (0, 0, 0), (0, 0, 0, 0, 0)):
            assert_truth(self, is_sides(WEB, sides), False)
            assert_truth(self, sides_hold(WEB, sides), False)

    def test_only_0_and_1(self):
        for side in (2, -1, 3, SIXTY, -SIXTY, True, False, None, "0", (0,), [0]):
            for thing in ((0, 0, 1, side), (side, 0, 1, 0)):
                assert_truth(self, is_sides(WEB, thing), False)
                assert_truth(self, sides_hold(WEB, thing), False)

    def test_anything(self):
        for web in ((1, ()), (2, ()), WEB, (10 ** 31, ()), great_web()):
            for thing in plain_wrong() + list(spoiled((0, 0, 1, 0))):
                assert_truth(self, is_sides(web, thing), False)
                assert_truth(self, sides_hold(web, thing), False)

    def test_hold(self):
        for sides in all_sides(WEB):
            expected = sides[0] == sides[1] != sides[2]
            assert_truth(self, sides_hold(WEB, sides), expected)

    def test_hold_where_no_tie_is(self):
        for sides in all_sides((3, ())):
            assert_truth(self, sides_hold((3, ()), sides), True)

    def test_none_hold_where_there_is_an_odd_ring(self):
        for web in (ODD, (2, ((0, 1, "friend"), (0, 1, "foe")))):
            for sides in all_sides(web):
                assert_truth(self, sides_hold(web, sides), False)

    def test_nothing_is_changed(self):
        for thing in plain_wrong() + [(0, 0, 1, 0), (0, 0, 0, 0)]:
            assert_steady(self, is_sides, WEB, thing)
            assert_steady(self, sides_hold, WEB, thing)


class Broken(unittest.TestCase):
    def test_ordinary(self):
        self.assertEqual(broken_by(WEB, (0, 0, 1, 0)), ())
        self.assertEqual(broken_by(WEB, (0, 1, 1, 0)), (0, 1, 3))
        self.assertEqual(broken_by(WEB, (1, 1, 1, 0)), (1, 2))
        self.assertEqual(broken_by((2, ()), (1, 0)), ())

    def test_all_sides_of_small_webs(self):
        for web in small_webs(100):
            for sides in all_sides(web):
                self.assertEqual(broken_by(web, sides), broken_slowly(web, sides))
                assert_truth(self, sides_hold(web, sides), broken_slowly(web, sides) == ())

    def test_great_webs(self):
        web = great_web()
        self.assertEqual(broken_by(web, (0, 1) * 20), broken_slowly(web, (0, 1) * 20))
        self.assertIs(type(broken_by(web, (0,) * 40)), tuple)
        assert_steady(self, broken_by, web, (0, 1) * 20)


class FixedChoice(unittest.TestCase):
    def test_ordinary(self):
        self.assertEqual(sides_of(WEB), (0, 0, 1, 0))
        self.assertEqual(sides_of((4, ((3, 1, "foe"), (2, 0, "foe")))), (0, 0, 1, 1))
        self.assertEqual(sides_of((5, ((4, 3, "friend"), (3, 1, "foe")))), (0, 0, 0, 1, 1))

    def test_no_ties(self):
        self.assertEqual(sides_of((1, ())), (0,))
        self.assertEqual(sides_of((3, ())), (0, 0, 0))

    def test_ties_of_the_same_places(self):
        self.assertEqual(sides_of((2, ((0, 1, "foe"), (1, 0, "foe")))), (0, 1))
        self.assertIsNone(sides_of((2, ((0, 1, "foe"), (1, 0, "friend")))))

    def test_none(self):
        self.assertIsNone(sides_of(ODD))
        self.assertIsNone(sides_of((5, ((0, 1, "foe"), (2, 3, "foe"), (3, 4, "foe"), (4, 2, "foe")))))

    def test_all_small_webs(self):
        for web in WEBS[:8] + small_webs():
            holding = [sides for sides in all_sides(web) if not broken_slowly(web, sides)
                       and not any(sides[part[0]] for part in parts_of(web))]
            self.assertEqual(sides_of(web), holding[0] if holding else None)
            self.assertLess(len(holding), 2)

    def test_great_webs(self):
        for seed in range(20):
            web, sides = great_holding_web(seed, ties=120 - seed * 5)
            told = sides_of(web)
            self.assertIs(type(told), tuple)
            assert_truth(self, sides_hold(web, told), True)
            for part in parts_of(web):
                self.assertEqual(told[part[0]], 0)
                self.assertEqual([told[place] for place in part], [sides[place] ^ sides[part[0]] for place in part])
            one, other, kind = web[1][-1]
            spoilt = web[1] + ((other, one, "foe" if kind == "friend" else "friend"),)
            self.assertIsNone(sides_of((40, spoilt)))
        self.assertIsNone(sides_of(great_web()))

    def test_whole_numbers_are_told(self):
        for web in WEBS:
            for side in sides_of(web) or ():
                self.assertIs(type(side), int)

    def test_nothing_is_changed(self):
        for web in WEBS:
            assert_steady(self, sides_of, web)


if __name__ == "__main__":
    unittest.main()
