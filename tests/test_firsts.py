"""Promise 16: the first tie that breaks."""

import unittest

from friendfoe.firsts import first_broken
from friendfoe.ringing import odd_ring_holds
from friendfoe.siding import sides_of
from friendfoe.standing import Stand
from samples import (WEBS, assert_plain, assert_steady, assert_truth, beside, flipped, great_holding_web, great_web,
                     mixed_parts, ring_web, small_webs)


def first_slowly(web):
    """The first number with which the ties so far leave no two sides."""
    for number in range(len(web[1])):
        if sides_of((web[0], web[1][:number + 1])) is None:
            return number
    return None


class FirstBroken(unittest.TestCase):
    def told(self, web, expected):
        """The number is told, with an odd ring of it and ties ahead of it alone."""
        told = first_broken(web)
        self.assertIs(type(told), tuple)
        number, ring = told
        self.assertEqual(number, expected)
        assert_truth(self, odd_ring_holds(web, ring), True)
        self.assertIn(number, ring[1])
        self.assertEqual(max(ring[1]), number)
        assert_plain(self, told)

    def test_ordinary(self):
        web = (4, ((0, 1, "foe"), (2, 3, "foe"), (1, 2, "foe"), (3, 0, "foe"), (0, 2, "foe"), (1, 3, "foe")))
        self.told(web, 4)
        self.assertIsNone(first_broken((4, web[1][:4])))

    def test_no_ties(self):
        for many in (1, 2, 40):
            self.assertIsNone(first_broken((many, ())))

    def test_two_ties_of_the_same_places(self):
        self.told((2, ((0, 1, "foe"), (1, 0, "friend"))), 1)
        self.told((2, ((0, 1, "foe"), (1, 0, "foe"), (1, 0, "foe"), (0, 1, "friend"), (0, 1, "friend"))), 3)
        self.assertIsNone(first_broken((2, ((0, 1, "foe"), (1, 0, "foe")))))

    def test_the_least_number_not_the_shortest_ring(self):
        long, short = ring_web(9, 1), ring_web(2, 1)
        self.told(beside(long, short), 8)
        self.told(beside(short, long), 1)
        # A shorter ring of a tie behind: it may not stand in the ring.
        self.told((9, long[1] + ((0, 2, "friend"), (0, 2, "foe"))), 8)

    def test_rings_of_all_lengths(self):
        for many in range(2, 41):
            self.told(ring_web(many, 1), many - 1)
            self.assertIsNone(first_broken(ring_web(many, 2)))

    def test_all_small_webs(self):
        for web in WEBS + small_webs() + [mixed_parts(ring_web(4, 2), ring_web(5, 1), ring_web(3, 3), seed=seed)
                                          for seed in range(20)]:
            number = first_slowly(web)
            if number is None:
                self.assertIsNone(first_broken(web))
            else:
                self.told(web, number)

    def test_as_a_stand_tells(self):
        for web in small_webs(60):
            stand = Stand(web[0])
            for tie in web[1]:
                stand.come(*tie)
            told = first_broken(web)
            self.assertEqual(None if told is None else told[0], stand.broken()[0] if stand.broken() else None)

    def test_forty_places(self):
        for seed in range(20):
            self.told(great_web(seed), first_slowly(great_web(seed)))
            web = great_holding_web(seed)[0]
            self.assertIsNone(first_broken(web))
            spoilt = flipped(web, 119)
            number = first_slowly(spoilt)
            if number is not None:
                self.told(spoilt, number)

    def test_nothing_is_changed(self):
        for web in WEBS:
            assert_steady(self, first_broken, web)


if __name__ == "__main__":
    unittest.main()
