"""Promise 8: rings."""

import itertools
import unittest

from friendfoe.ringing import foes_in, odd_ring_holds, ring_holds
from friendfoe.siding import sides_of
from samples import SIXTY, WEBS, all_rings, assert_steady, assert_truth, great_web, plain_wrong, small_webs, spoiled

WEB = (5, ((0, 1, "foe"), (2, 1, "friend"), (2, 0, "foe"), (0, 1, "friend"), (3, 2, "foe"), (0, 3, "foe")))
RINGS = [  # with how many foes
    (((0, 1, 2), (0, 1, 2)), 2),
    (((0, 1, 2), (3, 1, 2)), 1),
    (((0, 1), (0, 3)), 1),
    (((1, 0), (0, 3)), 1),
    (((0, 1), (3, 0)), 1),
    (((0, 1, 2, 3), (0, 1, 4, 5)), 3),
    (((0, 1, 2, 3), (3, 1, 4, 5)), 2),
    (((0, 2, 3), (2, 4, 5)), 3),
]


def begun_elsewhere(ring):
    """The same ring from each of its places on, both ways about."""
    places, ties = ring
    for at in range(len(places)):
        turned = (places[at:] + places[:at], ties[at:] + ties[:at])
        yield turned
        yield (turned[0][:1] + turned[0][:0:-1], turned[1][::-1])


class Rings(unittest.TestCase):
    def test_ordinary(self):
        for ring, foes in RINGS:
            for same in begun_elsewhere(ring):
                assert_truth(self, ring_holds(WEB, same), True)
                self.assertEqual(foes_in(WEB, same), foes)
                assert_truth(self, odd_ring_holds(WEB, same), foes % 2 == 1)

    def test_friends_only(self):
        web = (3, ((0, 1, "friend"), (1, 2, "friend"), (2, 0, "friend")))
        ring = ((0, 1, 2), (0, 1, 2))
        assert_truth(self, ring_holds(web, ring), True)
        self.assertEqual(foes_in(web, ring), 0)
        assert_truth(self, odd_ring_holds(web, ring), False)

    def test_ties_in_another_order(self):
        for ring in (((0, 1, 2), (1, 2, 0)), ((0, 1, 2), (2, 1, 0)), ((1, 2, 0), (0, 1, 2)), ((0, 2, 1), (0, 1, 2))):
            self.no_ring(WEB, ring)

    def test_two_places(self):
        self.no_ring(WEB, ((0, 1), (0, 0)))
        self.no_ring(WEB, ((1, 2), (1, 1)))
        self.no_ring(WEB, ((1, 2), (1, 0)))
        self.no_ring((2, ((0, 1, "foe"),)), ((0, 1), (0, 0)))
        assert_truth(self, odd_ring_holds((2, ((0, 1, "foe"), (1, 0, "friend"))), ((0, 1), (0, 1))), True)
        assert_truth(self, odd_ring_holds((2, ((0, 1, "foe"), (1, 0, "foe"))), ((0, 1), (0, 1))), False)

    def test_places_and_ties_stand_once(self):
        web = (3, ((0, 1, "foe"), (1, 0, "foe"), (0, 2, "foe"), (2, 0, "friend")))
        self.no_ring(web, ((0, 1, 0, 2), (0, 1, 2, 3)))
        self.no_ring(WEB, ((0, 1, 2, 0, 1, 2), (0, 1, 2, 0, 1, 2)))
        self.no_ring(WEB, ((0, 1, 2, 1), (0, 1, 1, 3)))

    def test_the_ends_are_joined(self):
        self.no_ring(WEB, ((0, 1, 2, 3), (0, 1, 4, 2)))
        self.no_ring(WEB, ((0, 1, 2, 3), (0, 1, 4)))
        self.no_ring(WEB, ((1, 2, 3), (1, 4, 5)))

    def test_a_part_more_or_less(self):
        for thing in ((), ((),), ((), ()), ((0,), ()), ((0,), (0,)), ((0, 1), ()), ((), (0, 3)), ((0, 1), (0,)),
                      ((0,), (0, 3)), ((0, 1, 2), (0, 3)), ((0, 1), (0, 3, 1)), ((0, 1), (0, 3), ()),
                      ((0, 1), (0, 3), None), ((0, 1),), (0, 1, 0, 3), ((0, 0), (0, 3)), ((0, 1, 2, 3), (0, 1, 2)),
                      ((0, 1, 2), (0, 1, 2, 4)), (((0, 1), (0, 3)),)):
            self.no_ring(WEB, thing)

    def test_numbers_that_are_not_there(self):
        for places in ((0, 5), (5, 0), (-5, 1), (0, -4), (0, SIXTY), (-SIXTY, 1)):
            self.no_ring(WEB, (places, (0, 3)))
        for ties in ((0, 6), (6, 0), (-6, 3), (0, -3), (0, SIXTY), (-SIXTY, 3)):
            self.no_ring(WEB, ((0, 1), ties))

    def test_truths_are_no_numbers(self):
        two = (2, ((0, 1, "foe"), (1, 0, "friend")))
        for thing in (((False, 1), (0, 1)), ((0, True), (0, 1)), ((0, 1), (False, 1)), ((0, 1), (0, True))):
            self.no_ring(two, thing)

    def test_anything(self):
        for web in (WEB, (1, ()), (10 ** 31, ()), great_web()):
            for thing in plain_wrong():
                self.no_ring(web, thing)
        for ring, foes in RINGS:
            for thing in spoiled(ring):
                self.no_ring(WEB, thing)

    def no_ring(self, web, thing):
        assert_truth(self, ring_holds(web, thing), False)
        assert_truth(self, odd_ring_holds(web, thing), False)

    def test_all_rows_of_small_webs(self):
        for web in small_webs(12, seed=3, places=3, ties=4):
            rings = set(all_rings(web))
            for length in range(1, 4):
                for places in itertools.product(range(web[0]), repeat=length):
                    for ties in itertools.product(range(len(web[1])), repeat=length):
                        assert_truth(self, ring_holds(web, (places, ties)), (places, ties) in rings)

    def test_no_sides_hold_just_where_there_is_an_odd_ring(self):
        for web in WEBS[:8] + small_webs(120, places=5, ties=7):
            rings = list(all_rings(web))
            for ring in rings:
                assert_truth(self, ring_holds(web, ring), True)
                foes = sum(web[1][tie][2] == "foe" for tie in ring[1])
                self.assertEqual(foes_in(web, ring), foes)
            odd = [ring for ring in rings if odd_ring_holds(web, ring)]
            self.assertEqual(sides_of(web) is None, odd != [])

    def test_great_webs(self):
        ties = tuple(((place + 1) % 40, place, "foe") for place in range(40)) + great_web(ties=80)[1]
        web = (40, ties)
        ring = (tuple(range(40)), tuple(range(40)))
        for same in begun_elsewhere(ring):
            assert_truth(self, ring_holds(web, same), True)
            assert_truth(self, odd_ring_holds(web, same), False)
        self.assertEqual(foes_in(web, ring), 40)
        web = (40, ties[:7] + ((8, 7, "friend"),) + ties[8:])
        assert_truth(self, odd_ring_holds(web, ring), True)
        self.no_ring(web, (tuple(range(40)), tuple(range(1, 40)) + (0,)))

    def test_webs_of_many_places_that_were_read(self):
        many = 10 ** 31 - 1
        web = (many, ((many - 1, 0, "foe"), (0, many - 1, "friend")))
        assert_truth(self, odd_ring_holds(web, ((0, many - 1), (0, 1))), True)

    def test_nothing_is_changed(self):
        for thing in plain_wrong() + [ring for ring, foes in RINGS]:
            assert_steady(self, ring_holds, WEB, thing)
            assert_steady(self, odd_ring_holds, WEB, thing)
        assert_steady(self, foes_in, WEB, RINGS[0][0])


if __name__ == "__main__":
    unittest.main()
