"""Promises 3, 11 and 13: webs turned, stems, the rings they close, and plain webs."""

import unittest

from friendfoe.parting import parts_of
from friendfoe.ringing import foes_in, ring_holds
from friendfoe.siding import sides_of
from friendfoe.turning import plain, ring_closed, stems, turned
from samples import (WEBS, about, all_choices, all_rings, assert_plain, assert_steady, assert_truth, beside,
                     great_holding_web, great_web, renumbered, ring_web, small_webs, some_places)

WEB = (6, ((1, 0, "foe"), (1, 2, "friend"), (0, 2, "foe"), (5, 4, "foe"), (4, 5, "friend"), (2, 1, "foe")))


def kinds(web):
    return [kind for one, other, kind in web[1]]


def stems_slowly(web):
    """As it is told: the ties whose places lie in unlike parts of the web of the ties of lesser numbers."""
    told = []
    for number, (one, other, kind) in enumerate(web[1]):
        part = next(part for part in parts_of((web[0], web[1][:number])) if one in part)
        if other not in part:
            told.append(number)
    return tuple(told)


class Turned(unittest.TestCase):
    def test_ordinary(self):
        self.assertEqual(turned(WEB, (1,)), (6, ((1, 0, "friend"), (1, 2, "foe"), (0, 2, "foe"), (5, 4, "foe"),
                                                 (4, 5, "friend"), (2, 1, "friend"))))
        self.assertEqual(turned(WEB, (0, 1, 3, 4)), (6, ((1, 0, "foe"), (1, 2, "foe"), (0, 2, "friend"),
                                                         (5, 4, "friend"), (4, 5, "foe"), (2, 1, "friend"))))

    def test_at_no_places_and_at_all(self):
        for web in WEBS + small_webs(30):
            self.assertEqual(turned(web, ()), web)
            self.assertEqual(turned(web, tuple(range(web[0]))), web)

    def test_at_the_places_of_a_part(self):
        self.assertEqual(turned(WEB, (4, 5)), WEB)
        self.assertEqual(turned(WEB, (0, 1, 2)), WEB)
        self.assertEqual(turned(WEB, (3,)), WEB)

    def test_twice_at_the_same_places(self):
        for seed, web in enumerate(WEBS + small_webs(50)):
            places = some_places(web, seed)
            self.assertEqual(turned(turned(web, places), places), web)
            others = tuple(place for place in range(web[0]) if place not in places)
            self.assertEqual(turned(web, places), turned(web, others))

    def test_tie_by_tie(self):
        for seed, web in enumerate(WEBS + small_webs(50)):
            places = some_places(web, seed)
            told = turned(web, places)
            self.assertEqual(told[0], web[0])
            self.assertEqual([tie[:2] for tie in told[1]], [tie[:2] for tie in web[1]])
            for (one, other, kind), (a, b, now) in zip(web[1], told[1]):
                self.assertEqual(kind != now, len({one, other} & set(places)) == 1)

    def test_rings_stay_odd_or_even(self):
        for seed, web in enumerate(small_webs(60, places=5, ties=7)):
            told = turned(web, some_places(web, seed))
            for ring in all_rings(web):
                self.assertEqual(foes_in(web, ring) % 2, foes_in(told, ring) % 2)
            self.assertEqual(sides_of(web) is None, sides_of(told) is None)

    def test_kinds_of_values(self):
        for web in WEBS:
            assert_plain(self, turned(web, (0,)))

    def test_nothing_is_changed(self):
        for web in WEBS:
            assert_steady(self, turned, web, (0,))


class Stems(unittest.TestCase):
    def test_ordinary(self):
        self.assertEqual(stems(WEB), (0, 1, 3))
        self.assertEqual(stems((3, ((0, 1, "foe"), (0, 1, "foe"), (2, 1, "foe"), (0, 2, "foe")))), (0, 2))

    def test_no_ties(self):
        for many in (1, 2, 40):
            self.assertEqual(stems((many, ())), ())

    def test_several_parts(self):
        self.assertEqual(stems(beside(ring_web(3, 1), (1, ()), ring_web(2, 1), ring_web(4, 0))), (0, 1, 3, 5, 6, 7))
        self.assertEqual(stems((4, ((0, 1, "foe"), (2, 3, "foe"), (1, 2, "foe"), (0, 3, "foe")))), (0, 1, 2))

    def test_as_told(self):
        for web in WEBS + small_webs() + [great_web(seed, ties=30 + 3 * seed) for seed in range(20)]:
            told = stems(web)
            self.assertEqual(told, stems_slowly(web))
            self.assertEqual(len(told), web[0] - len(parts_of(web)))
            assert_plain(self, told)

    def test_kinds_make_no_difference(self):
        for seed, web in enumerate(small_webs(50)):
            self.assertEqual(stems(web), stems(turned(web, some_places(web, seed))))
            self.assertEqual(stems(web), stems(about(web)))

    def test_nothing_is_changed(self):
        for web in WEBS:
            assert_steady(self, stems, web)


class RingClosed(unittest.TestCase):
    def test_ordinary(self):
        self.assertEqual(ring_closed(WEB, 2), ((0, 1, 2), (0, 1, 2)))
        self.assertEqual(ring_closed(WEB, 4), ((4, 5), (3, 4)))
        self.assertEqual(ring_closed(WEB, 5), ((2, 1), (1, 5)))

    def test_the_other_way_about(self):
        web = (3, ((0, 1, "foe"), (1, 2, "foe"), (2, 0, "foe"), (0, 2, "foe")))
        self.assertEqual(ring_closed(web, 2), ((2, 1, 0), (1, 0, 2)))
        self.assertEqual(ring_closed(web, 3), ((0, 1, 2), (0, 1, 3)))

    def test_along_the_stems_alone(self):
        # 0 to 3 is one step by tie 3, which is no stem: tie 4 goes the long way.
        web = (4, ((0, 1, "foe"), (1, 2, "foe"), (2, 3, "foe"), (3, 0, "foe"), (3, 0, "friend")))
        self.assertEqual(ring_closed(web, 4), ((3, 2, 1, 0), (2, 1, 0, 4)))

    def test_forty_places(self):
        web = ring_web(40, 1)
        down = tuple(range(38, -1, -1))
        self.assertEqual(ring_closed(web, 39), ((39,) + down, down + (39,)))

    def test_as_told(self):
        for web in WEBS + small_webs(150) + [great_web(seed, ties=120 - 5 * seed) for seed in range(10)]:
            of_stems = stems(web)
            for tie in range(len(web[1])):
                if tie not in of_stems:
                    ring = ring_closed(web, tie)
                    assert_truth(self, ring_holds(web, ring), True)
                    self.assertEqual((ring[0][0], ring[0][-1]), web[1][tie][:2])
                    self.assertEqual(ring[1][-1], tie)
                    self.assertLessEqual(set(ring[1][:-1]), set(of_stems))
                    assert_plain(self, ring)

    def test_nothing_is_changed(self):
        assert_steady(self, ring_closed, WEB, 2)


class Plain(unittest.TestCase):
    def test_ordinary(self):
        self.assertEqual(plain(WEB), (6, ((1, 0, "friend"), (1, 2, "friend"), (0, 2, "friend"), (5, 4, "friend"),
                                          (4, 5, "foe"), (2, 1, "foe"))))

    def test_no_ties(self):
        self.assertEqual(plain((3, ())), (3, ()))

    def test_one_part(self):
        for many in (2, 3, 40):
            told = plain(ring_web(many, 1))
            self.assertEqual(kinds(told), ["friend"] * (many - 1) + ["foe"])
            self.assertEqual(set(kinds(plain(ring_web(many, 2)))), {"friend"})

    def test_turned_by_the_fixed_choice(self):
        for web in WEBS[:8] + small_webs(100, places=5):
            firsts = {part[0] for part in parts_of(web)}
            found = [turned(web, places) for places in all_choices(web[0]) if not firsts & set(places)
                     and all(turned(web, places)[1][stem][2] == "friend" for stem in stems(web))]
            self.assertEqual(found, [plain(web)])

    def test_sides_hold_just_where_all_are_friends(self):
        for web in WEBS + small_webs(60) + [great_holding_web(seed)[0] for seed in range(5)]:
            self.assertEqual(sides_of(web) is not None, "foe" not in kinds(plain(web)))

    def test_foes_are_those_that_close_an_odd_ring(self):
        for web in WEBS + small_webs(60) + [great_web(seed, ties=90) for seed in range(5)]:
            told = plain(web)
            of_stems = stems(web)
            for tie, kind in enumerate(kinds(told)):
                odd = tie not in of_stems and foes_in(web, ring_closed(web, tie)) % 2 == 1
                self.assertEqual(kind, "foe" if odd else "friend")

    def test_the_same_for_all_that_it_is_turned_into(self):
        for seed, web in enumerate(WEBS + small_webs(50)):
            self.assertEqual(plain(turned(web, some_places(web, seed))), plain(web))
            self.assertEqual(plain(plain(web)), plain(web))

    def test_the_same_just_where_one_is_turned_into_the_other(self):
        for web in small_webs(25, places=4, ties=5):
            into = {turned(web, places) for places in all_choices(web[0])}
            for foes in all_choices(len(web[1])):
                other = (web[0], tuple((*tie[:2], "foe" if number in foes else "friend")
                                       for number, tie in enumerate(web[1])))
                self.assertEqual(other in into, plain(other) == plain(web))

    def test_ties_stay_written_as_they_are(self):
        for web in WEBS + small_webs(50):
            self.assertEqual([tie[:2] for tie in plain(web)[1]], [tie[:2] for tie in web[1]])
            self.assertEqual(kinds(plain(about(web))), kinds(plain(web)))

    def test_renumbered_places(self):
        for seed in range(10):
            web, places, numbers = renumbered(great_web(seed, ties=60), seed)
            self.assertTrue(all(plain(web)[1][stem][2] == "friend" for stem in stems(web)))

    def test_kinds_of_values_and_nothing_is_changed(self):
        for web in WEBS:
            assert_plain(self, plain(web))
            assert_steady(self, plain, web)


if __name__ == "__main__":
    unittest.main()
