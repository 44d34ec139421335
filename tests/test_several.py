"""Promises 2, 3, 23, 24 and 25: friends, sides of k, and the least number of them."""

import itertools
import random
import time
import unittest

from friendfoe.errors import TooMany, WebError
from friendfoe.parting import parts_of
from friendfoe.ringing import foes_in, ring_holds
from friendfoe.several import friends_of, least_several, several, several_hold
from friendfoe.severalchecks import none_holds
from samples import (SIXTY, WEBS, about, assert_plain, assert_steady, assert_truth, beside, full_web,
                     great_holding_web, great_web, mixed_parts, plain_wrong, renumbered, ring_web, small_webs, spoiled)

WEB = (6, ((0, 3, "friend"), (3, 1, "foe"), (1, 4, "friend"), (4, 2, "foe"), (2, 0, "foe")))
ONE_FOE = (4, ((0, 1, "friend"), (1, 2, "friend"), (3, 0, "foe"), (2, 0, "foe")))


def foe_ring(many):
    """A ring of foes."""
    return ring_web(many, many)


def joined(web, other):
    """Both webs, and foes between any place of the one and any of the other."""
    both = beside(web, other)
    across = tuple((one, web[0] + two, "foe") for one in range(web[0]) for two in range(other[0]))
    return (both[0], both[1] + across)


def befriended(web, many, seed=1):
    """The web with so many places more, each with a friend among those ahead, all numbered otherwise."""
    chance = random.Random(seed)
    ties = web[1] + tuple((chance.randrange(place), place, "friend") for place in range(web[0], many))
    return renumbered((many, ties), seed)[0]


def foes_and_friends(seed, friends=8, places=20, foes=16):
    """A web with so many friends, spread over so many places, and no foe tie within them."""
    return befriended(great_web(seed, ("foe",), many=friends, ties=foes), places, seed)


def hold_slowly(web, sides):
    return all((sides[one] == sides[other]) == (kind == "friend") for one, other, kind in web[1])


def least_slowly(web):
    """The least k of sides that hold, tried over all sides of all places, or None."""
    for k in range(1, web[0] + 1):
        if any(hold_slowly(web, sides) for sides in itertools.product(range(k), repeat=web[0])):
            return k
    return None


class Friends(unittest.TestCase):
    def test_ordinary(self):
        self.assertEqual(friends_of(WEB), ((0, 3), (1, 4), (2,), (5,)))
        self.assertEqual(friends_of(ONE_FOE), ((0, 1, 2), (3,)))

    def test_no_ties_and_foes_alone(self):
        for many in (1, 2, 40):
            self.assertEqual(friends_of((many, ())), tuple((place,) for place in range(many)))
        self.assertEqual(friends_of(full_web(8)), tuple((place,) for place in range(8)))

    def test_friends_alone_are_the_parts(self):
        for seed in range(10):
            web = great_web(seed, ("friend",), ties=20 + 4 * seed)
            self.assertEqual(friends_of(web), parts_of(web))

    def test_two_ties_of_the_same_places(self):
        self.assertEqual(friends_of((3, ((2, 1, "foe"), (1, 2, "friend")))), ((0,), (1, 2)))

    def test_by_all_ways(self):
        for web in WEBS + small_webs(60):
            near = {place: {place} for place in range(web[0])}
            for turn in range(web[0]):
                for one, other, kind in web[1]:
                    if kind == "friend":
                        near[one] = near[other] = near[one] | near[other]
            told = friends_of(web)
            assert_plain(self, told)
            self.assertEqual(told, tuple(sorted({tuple(sorted(row)) for row in near.values()})))

    def test_nothing_is_changed(self):
        for web in WEBS:
            assert_steady(self, friends_of, web)


class Hold(unittest.TestCase):
    def no(self, web, k, *things):
        for thing in things:
            assert_truth(self, several_hold(web, k, thing), False)

    def test_ordinary(self):
        for sides in ((0, 1, 2, 0, 1, 0), (2, 0, 1, 2, 0, 2), (0, 1, 2, 0, 1, 1)):
            assert_truth(self, several_hold(WEB, 3, sides), True)
            assert_truth(self, several_hold(WEB, 20, sides), True)
        self.no(WEB, 3, (0, 1, 2, 1, 1, 0), (0, 1, 1, 0, 1, 0), (0, 0, 2, 0, 0, 0), (0, 1, 0, 0, 1, 0),
                (0, 1, 2, 0, 2, 0))
        self.no(WEB, 2, (0, 1, 2, 0, 1, 0))

    def test_all_sides_of_small_webs(self):
        for web in WEBS[:7] + small_webs(30, places=4, ties=4):
            for k in (1, 2, 3):
                for sides in itertools.product(range(4), repeat=web[0]):
                    expected = max(sides) < k and hold_slowly(web, sides)
                    assert_truth(self, several_hold(web, k, sides), expected)

    def test_one_side(self):
        assert_truth(self, several_hold((3, ()), 1, (0, 0, 0)), True)
        assert_truth(self, several_hold((2, ((0, 1, "friend"),)), 1, (0, 0)), True)
        self.no((3, ()), 1, (0, 0, 1), (1, 1, 1))
        self.no((2, ((0, 1, "foe"),)), 1, (0, 0), (0, 1))

    def test_twenty_sides(self):
        web = full_web(16)
        assert_truth(self, several_hold(web, 20, tuple(range(4, 20))), True)
        self.no(web, 20, tuple(range(5, 21)), tuple(range(15)) + (0,))
        self.no(web, 15, tuple(range(16)))
        assert_truth(self, several_hold((1, ()), 20, (19,)), True)
        self.no((1, ()), 20, (20,), (-1,), (SIXTY,))

    def test_two_sides_are_sides(self):
        web, sides = great_holding_web()
        assert_truth(self, several_hold(web, 2, sides), True)
        self.no(web, 1, sides)
        self.no(web, 2, sides[:39] + (1 - sides[39],))

    def test_truths_are_no_sides(self):
        self.no((2, ((0, 1, "foe"),)), 2, (False, True), (0, True), (False, 1), (True, 0))
        self.no((1, ()), 1, (False,))

    def test_a_part_more_or_less(self):
        right = (0, 1, 2, 0, 1, 0)
        assert_truth(self, several_hold(WEB, 3, right), True)
        self.no(WEB, 3, right[:5], right + (0,), (), (right,), ("sides", right), [*right], dict(enumerate(right)),
                "012010", right[:5] + (None,), right[:5] + ("0",), right[:5] + ((0,),), right[:5] + ([0],),
                right[:5] + (-1,), right[:5] + (3,), right[:5] + ({},))

    def test_anything(self):
        for web in (WEB, ring_web(2, 1), great_web(), (10 ** 31, ())):
            for k in (1, 3, 20):
                self.no(web, k, *plain_wrong())
        self.no((1, ()), 1, *plain_wrong())
        self.no(WEB, 3, *spoiled((0, 1, 2, 0, 1, 0)))

    def test_nothing_is_changed(self):
        for thing in plain_wrong() + [(0, 1, 2, 0, 1, 0), [0] * 6]:
            assert_steady(self, several_hold, WEB, 3, thing)


class Told(unittest.TestCase):
    def check(self, web, k):
        """What is told holds; the word alone is told on."""
        told = several(web, k)
        self.assertIs(type(told), tuple)
        assert_plain(self, told)
        word, answer = told
        if word == "sides":
            assert_truth(self, several_hold(web, k, answer), True)
        elif word == "ring":
            self.is_ring_of_one_foe(web, answer)
        else:
            self.assertEqual(word, "none")
            assert_truth(self, none_holds(web, k, answer), True)
        return word

    def is_ring_of_one_foe(self, web, ring):
        assert_truth(self, ring_holds(web, ring), True)
        self.assertEqual(foes_in(web, ring), 1)

    def check_least(self, web, expected):
        told = least_several(web)
        self.assertIs(type(told), tuple)
        if expected is None:
            word, ring = told
            self.assertEqual(word, "ring")
            self.is_ring_of_one_foe(web, ring)
            return
        word, k, sides, paper = told
        self.assertEqual((word, k), ("least", expected))
        self.assertIs(type(k), int)
        assert_truth(self, several_hold(web, k, sides), True)
        if k == 1:
            self.assertIsNone(paper)
        else:
            assert_plain(self, told)
            assert_truth(self, none_holds(web, k - 1, paper), True)

    def refused(self, web):
        for function, more in ((several, (1,)), (several, (2,)), (several, (20,)), (least_several, ())):
            with self.assertRaises(TooMany) as told:
                function(web, *more)
            self.assertIs(type(told.exception), TooMany)
            self.assertIsInstance(told.exception, WebError)

    def test_ordinary(self):
        self.assertEqual([self.check(WEB, k) for k in (1, 2, 3, 4, 20)], ["none", "none", "sides", "sides", "sides"])
        self.check_least(WEB, 3)
        self.assertEqual(several(WEB, 2), ("none", ("crowd", (0, 1, 2))))

    def test_no_ties_and_friends_alone(self):
        for web in ((1, ()), (40, ()), great_web(1, ("friend",)), ring_web(40, 0)):
            for k in (1, 2, 20):
                self.assertEqual(self.check(web, k), "sides")
            self.check_least(web, 1)
            self.assertEqual(least_several(web), ("least", 1, (0,) * web[0], None))

    def test_one_foe_tie(self):
        web = (2, ((0, 1, "foe"),))
        self.assertEqual(several(web, 1), ("none", ("crowd", (0, 1))))
        self.assertEqual(self.check(web, 2), "sides")
        self.check_least(web, 2)

    def test_a_foe_tie_within_friends(self):
        for k in (1, 2, 3, 20):
            self.assertEqual(self.check(ONE_FOE, k), "ring")
            self.assertEqual(self.check(ring_web(2, 1), k), "ring")
            self.assertEqual(self.check(ring_web(40, 1), k), "ring")
        for web in (ONE_FOE, ring_web(2, 1), ring_web(40, 1), beside(full_web(4), ONE_FOE)):
            self.check_least(web, None)

    def test_a_ring_ahead_of_too_many(self):
        for web in (beside(full_web(9), ONE_FOE), beside(ONE_FOE, full_web(9)), beside(ring_web(2, 1), foe_ring(38)),
                    (10, full_web(9)[1] + ((3, 9, "friend"), (9, 3, "foe"))),
                    mixed_parts(full_web(12), ring_web(5, 1))):
            for k in (1, 2, 20):
                self.assertEqual(self.check(web, k), "ring")
            self.check_least(web, None)

    def test_eight_friends_and_nine(self):
        for many in range(2, 9):
            for web in (full_web(many), foe_ring(many), befriended(full_web(many), 20), befriended(foe_ring(many), 40)):
                for k in (1, 2, 20):
                    self.assertIn(self.check(web, k), ("sides", "none"))
        for web in (full_web(9), foe_ring(9), foe_ring(10), befriended(full_web(9), 20), befriended(foe_ring(9), 40),
                    beside(full_web(3), foe_ring(9)), mixed_parts(foe_ring(9), (1, ()), full_web(4)),
                    (9, tuple((0, place, "foe") for place in range(1, 9)))):
            self.refused(web)

    def test_friends_are_counted_not_places(self):
        # Forty places in one part, of eight friends of five each, all foes.
        chance = random.Random(3)
        ties = [(place - 1, place, "friend") for place in range(40) if place % 5]
        ties += [(one * 5 + chance.randrange(5), other * 5 + chance.randrange(5), "foe")
                 for one, other in itertools.combinations(range(8), 2)]
        for web in ((40, tuple(ties)), renumbered((40, tuple(ties)), 1)[0]):
            self.assertEqual(len(parts_of(web)), 1)
            self.assertEqual([self.check(web, k) for k in (1, 6, 7, 8, 20)], ["none"] * 3 + ["sides"] * 2)
            self.check_least(web, 8)
        # Twenty parts of two friends each: in no part there are too many.
        web = beside(*[(2, ((0, 1, "foe"),))] * 20)
        self.assertEqual(self.check(web, 2), "sides")
        self.check_least(web, 2)

    def test_all_foes_of_eight_friends(self):
        for many in range(2, 9):
            web = full_web(many)
            for k in range(1, 21):
                self.assertEqual(self.check(web, k), "sides" if k >= many else "none")
            self.check_least(web, many)
        self.assertEqual(several(full_web(8), 7), ("none", ("crowd", tuple(range(8)))))

    def test_without_a_crowd(self):
        for web, least in ((foe_ring(5), 3), (foe_ring(7), 3), (joined(foe_ring(5), (1, ())), 4),
                           (joined(foe_ring(7), (1, ())), 4), (joined(foe_ring(5), full_web(2)), 5),
                           (joined(foe_ring(5), full_web(3)), 6)):
            for other in (web, about(web), befriended(web, 25), renumbered(web, 4)[0]):
                self.assertEqual(self.check(other, least - 1), "none")
                self.assertEqual(several(other, least - 1)[1][0], "case")
                self.assertEqual(self.check(other, least), "sides")
                self.check_least(other, least)

    def test_two_sides_where_sides_hold(self):
        for many in (2, 4, 6, 8):
            self.check_least(foe_ring(many), 2)
        for many in (3, 5, 7):
            self.check_least(foe_ring(many), 3)

    def test_parts(self):
        web = mixed_parts(foe_ring(5), full_web(4), (3, ()), foe_ring(6), (2, ((0, 1, "friend"),)), seed=5)
        self.assertEqual([self.check(web, k) for k in (1, 2, 3, 4, 5)], ["none"] * 3 + ["sides"] * 2)
        self.check_least(web, 4)
        for webs in itertools.permutations((full_web(2), foe_ring(5), full_web(4))):
            self.check_least(beside(*webs), 4)
            self.assertEqual(self.check(beside(*webs), 3), "none")

    def test_the_least_of_all_sides_of_small_webs(self):
        for web in WEBS[:8] + small_webs(60, places=5, ties=6):
            least = least_slowly(web)
            self.check_least(web, least)
            for k in (1, 2, 3, 4, 5, 20):
                expected = "ring" if least is None else "sides" if k >= least else "none"
                self.assertEqual(self.check(web, k), expected)

    def test_all_foes_of_six_friends(self):
        # All webs of foes of five places, and some of six to eight.
        pairs = list(itertools.combinations(range(5), 2))
        for number in range(0, 2 ** len(pairs), 3):
            web = (5, tuple((*pair, "foe") for at, pair in enumerate(pairs) if number >> at & 1))
            self.check_least(web, least_slowly(web))
        for seed in range(60):
            web = great_web(seed, ("foe",), many=6 + seed % 3, ties=8 + seed % 13)
            self.check_least(web, least_several(web)[1])

    def test_soon(self):
        start = time.process_time()
        for seed in range(8):
            webs = [great_web(seed * 5 + at, ("foe",), many=8, ties=17) for at in range(5)]
            web = mixed_parts(*webs, seed=seed)
            for k in range(1, 21):
                self.assertIn(self.check(web, k), ("sides", "none"))
            self.check_least(web, least_several(web)[1])
            self.check_least(foes_and_friends(seed, 8, 40, 20), least_several(foes_and_friends(seed, 8, 40, 20))[1])
        self.assertLess(time.process_time() - start, 20)

    def test_numbered_otherwise(self):
        for seed in range(30):
            web = foes_and_friends(seed, 7, 12, 14)
            other = about(renumbered(web, seed)[0])
            told = least_several(web)
            self.check_least(other, told[1] if told[0] == "least" else None)
            for k in (1, 2, 3, 4):
                self.assertEqual(self.check(web, k), self.check(other, k))

    def test_great_webs(self):
        for web in (great_web(), great_web(2)):
            # Foe ties within friends.
            self.assertEqual(self.check(web, 2), "ring")
            self.check_least(web, None)
        web = great_holding_web()[0]
        if len(friends_of(web)) <= 8:
            self.check_least(web, 2)

    def test_nothing_is_changed(self):
        for web in (WEB, ONE_FOE, full_web(8), foe_ring(7), (3, ())):
            assert_steady(self, least_several, web)
            for k in (1, 2, 20):
                assert_steady(self, several, web, k)


if __name__ == "__main__":
    unittest.main()
