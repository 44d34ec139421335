"""Promises 3, 9 and 10: shortest odd rings, with the layers that show that none is shorter."""

import unittest

from friendfoe.layering import layers_hold
from friendfoe.ringing import odd_ring_holds
from friendfoe.shortest import shortest_odd
from friendfoe.siding import sides_of
from friendfoe.turning import turned
from samples import (WEBS, all_rings, assert_plain, assert_steady, assert_truth, beside, flipped, great_holding_web,
                     great_web, renumbered, ring_web, small_webs, some_places)


def least_steps(web):
    """How many ties a shortest odd walk from a place back to it has, tried step by step; None where there is none."""
    reached = {start: {(start, 0)} for start in range(web[0])}
    for steps in range(1, 2 * web[0] + 1):
        for start in reached:
            stepped = set()
            for one, other, kind in web[1]:
                foe = kind == "foe"
                stepped |= {(b, odd ^ foe) for a, b in ((one, other), (other, one)) for odd in (0, 1)
                            if (a, odd) in reached[start]}
            reached[start] = stepped
            if (start, 1) in stepped:
                return steps
    return None


class Shortest(unittest.TestCase):
    def told(self, web, length):
        """The told ring has so many ties, and is shown to be a shortest one."""
        ring, layers = shortest_odd(web)
        assert_truth(self, odd_ring_holds(web, ring), True)
        self.assertEqual(len(ring[0]), length)
        assert_truth(self, layers_hold(web, length, layers), True)
        assert_truth(self, layers_hold(web, length + 1, layers), False)
        self.assertIsNone(sides_of(web))
        return ring

    def none_told(self, web):
        self.assertIsNone(shortest_odd(web))
        self.assertIsNotNone(sides_of(web))

    def test_ordinary(self):
        web = (5, ((0, 1, "friend"), (1, 2, "foe"), (2, 3, "friend"), (3, 0, "friend"), (3, 4, "foe"), (4, 0, "foe")))
        self.told(web, 4)
        ring = self.told((5, web[1] + ((4, 1, "friend"),)), 3)
        self.assertEqual((sorted(ring[0]), sorted(ring[1])), ([0, 1, 4], [0, 5, 6]))

    def test_no_ties(self):
        for many in (1, 2, 40):
            self.none_told((many, ()))

    def test_two_ties_of_the_same_places(self):
        for kinds in (("friend", "foe"), ("foe", "friend")):
            for back in ((0, 1), (1, 0)):
                web = (2, ((0, 1, kinds[0]), (*back, kinds[1])))
                ring = self.told(web, 2)
                self.assertEqual((sorted(ring[0]), sorted(ring[1])), ([0, 1], [0, 1]))
        for kind in ("friend", "foe"):
            self.none_told((2, ((0, 1, kind), (1, 0, kind))))
            self.none_told((2, ((0, 1, kind),)))

    def test_several_ties_of_the_same_places(self):
        foes = ((1, 2, "foe"), (2, 1, "foe"), (1, 2, "foe"))
        self.none_told((3, foes))
        ring = self.told((3, foes + ((2, 1, "friend"),)), 2)
        self.assertIn(3, ring[1])

    def test_rings_of_all_lengths(self):
        for many in range(2, 41):
            for foes in (1, many - 1 + many % 2):
                for seed in (1, 2):
                    web = renumbered(ring_web(many, foes), seed)[0]
                    ring = self.told(web, many)
                    self.assertEqual(sorted(ring[0]), list(range(many)))
                    self.assertEqual(sorted(ring[1]), list(range(many)))
            for foes in (0, 2, many - many % 2):
                self.none_told(renumbered(ring_web(many, foes), 3)[0])

    def test_a_shortest_ring_that_is_not_the_first_found(self):
        for longer, shorter in ((3, 2), (5, 3), (10, 4), (20, 19), (37, 3), (38, 2)):
            self.told(beside(ring_web(longer, 1), ring_web(shorter, 1)), shorter)
            self.told(beside(ring_web(shorter, 1), ring_web(longer, 1)), shorter)

    def test_a_shorter_ring_in_the_same_part(self):
        # A long odd ring at the first places, and a short one far away along friends.
        long, short = ring_web(17, 1), ring_web(3, 3)
        web = beside(long, (20, ()), short)
        row = tuple((place, place + 1, "friend") for place in range(16, 37))
        self.told((40, web[1] + row), 3)
        # Chords across a long ring, and the short ring of two of them.
        web = ring_web(12, 1)
        self.told((12, web[1] + ((0, 6, "foe"),)), 7)
        self.told((12, web[1] + ((0, 6, "foe"), (1, 7, "foe"))), 4)
        self.told((12, web[1] + ((0, 6, "friend"),)), 7)
        self.told((12, web[1] + ((3, 5, "foe"),)), 3)

    def test_even_rings_that_are_shorter(self):
        # Rings of two and three without an odd number of foes, an odd one only around all.
        ties = ring_web(9, 1)[1]
        ties += tuple((one, other, kind) for one, other, kind in ties) + ((1, 3, "friend"), (4, 6, "friend"))
        self.told((9, ties), 7)

    def test_webs_of_several_parts(self):
        self.told(beside(ring_web(6, 2), ring_web(7, 3), (3, ()), ring_web(5, 1), ring_web(4, 4)), 5)
        self.told(beside((2, ()), ring_web(6, 5), ring_web(6, 1)), 6)
        self.none_told(beside(ring_web(6, 2), (1, ()), ring_web(7, 4)))

    def test_all_rings_of_small_webs(self):
        for web in WEBS[:8] + small_webs(150, places=5, ties=7):
            least = min((len(ring[0]) for ring in all_rings(web) if odd_ring_holds(web, ring)), default=None)
            if least is None:
                self.none_told(web)
            else:
                self.told(web, least)

    def test_forty_places(self):
        seen = set()
        for seed in range(60):
            web = great_web(seed, ties=120 - seed)
            length = least_steps(web)
            seen.add(length)
            self.told(web, length)
        self.assertGreater(len(seen), 1)

    def test_forty_places_and_few_odd_rings(self):
        seen = set()
        for seed in range(40):
            web, sides = great_holding_web(seed, ties=50 + seed)
            self.none_told(web)
            web = flipped(web, seed)
            length = least_steps(web)
            seen.add(length)
            if length is None:
                self.none_told(web)
            else:
                self.assertIn(seed, self.told(web, length)[1])
        self.assertGreater(len(seen), 3)

    def test_numbered_or_turned_otherwise(self):
        for seed in range(20):
            web = great_web(seed, many=30, ties=50)
            length = least_steps(web)
            self.told(renumbered(web, seed)[0], length)
            self.told(turned(web, some_places(web, seed)), length)

    def test_somewhat_beyond_the_bounds(self):
        web = great_web(5, many=60, ties=200)
        self.told(web, least_steps(web))

    def test_kinds_of_values(self):
        for web in WEBS + [ring_web(40, 1), beside(ring_web(3, 1), ring_web(4, 4))]:
            told = shortest_odd(web)
            if told is not None:
                assert_plain(self, told)
                self.assertEqual([len(told), len(told[0]), len(told[1])], [2, 2, web[0]])

    def test_nothing_is_changed(self):
        for web in WEBS:
            assert_steady(self, shortest_odd, web)


if __name__ == "__main__":
    unittest.main()
