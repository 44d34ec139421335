"""Promises 2, 3 and 12: two webs of one frame, turned into one another or parted by a ring."""

import unittest

from friendfoe.errors import NoFrame, WebError
from friendfoe.framing import are_framed, told_turning, turning_holds
from friendfoe.parting import parts_of
from friendfoe.ringing import foes_in, odd_ring_holds, ring_holds
from friendfoe.turning import turned
from samples import (SIXTY, WEBS, about, all_choices, all_rings, assert_plain, assert_steady, assert_truth, beside,
                     flipped, great_holding_web, great_web, plain_wrong, ring_web, small_webs, some_places, spoiled)

ONE = (5, ((0, 1, "foe"), (1, 2, "foe"), (2, 0, "friend"), (3, 4, "foe"), (4, 3, "foe")))
TURNED = turned(ONE, (1, 4))
PARTED = (5, ((0, 1, "foe"), (1, 2, "foe"), (0, 2, "foe"), (3, 4, "foe"), (3, 4, "foe")))

UNFRAMED = [  # with ONE
    (6, ONE[1]),
    (5, ONE[1][:4]),
    (5, ONE[1] + ((0, 1, "foe"),)),
    (5, ONE[1][:3] + ((3, 4, "foe"), (4, 2, "foe"))),
    (5, ONE[1][:3] + ((3, 4, "foe"), (1, 3, "foe"))),
    (5, ONE[1][1:] + ONE[1][:1]),
    (5, ONE[1][:1] + ((2, 0, "friend"), (1, 2, "foe")) + ONE[1][3:]),
    (5, ()),
    (1, ()),
]


def other_kinds(web, foes):
    return (web[0], tuple((*tie[:2], "foe" if number in foes else "friend") for number, tie in enumerate(web[1])))


def kinds(web):
    return [kind for one, other, kind in web[1]]


class Framed(unittest.TestCase):
    def test_ordinary(self):
        for other in (ONE, TURNED, PARTED, about(ONE), about(ONE, 2), other_kinds(ONE, ())):
            assert_truth(self, are_framed(ONE, other), True)
            assert_truth(self, are_framed(other, ONE), True)

    def test_other_frames(self):
        for other in UNFRAMED:
            assert_truth(self, are_framed(ONE, other), False)
            assert_truth(self, are_framed(other, ONE), False)

    def test_no_ties(self):
        assert_truth(self, are_framed((3, ()), (3, ())), True)
        assert_truth(self, are_framed((3, ()), (4, ())), False)
        assert_truth(self, are_framed((2, ()), (2, ((0, 1, "foe"),))), False)

    def test_just_one_of_the_places_is_the_same(self):
        for tie in ((0, 2, "foe"), (2, 0, "foe"), (1, 2, "foe"), (2, 1, "foe")):
            assert_truth(self, are_framed((3, ((0, 1, "foe"),)), (3, (tie,))), False)

    def test_nothing_is_changed(self):
        for other in UNFRAMED + [TURNED]:
            assert_steady(self, are_framed, ONE, other)


class Told(unittest.TestCase):
    def check(self, one, other):
        """What is told holds, in itself and by the checker; a turning is the fixed choice."""
        word, told = thing = told_turning(one, other)
        self.assertIs(type(thing), tuple)
        assert_plain(self, thing)
        assert_truth(self, turning_holds(one, other, thing), True)
        assert_truth(self, turning_holds(other, one, thing), True)
        if word == "turned":
            self.assertEqual(kinds(turned(one, told)), kinds(other))
            self.assertEqual(told, tuple(sorted(set(told))))
            self.assertFalse({part[0] for part in parts_of(one)} & set(told))
        else:
            self.assertEqual(word, "ring")
            assert_truth(self, ring_holds(one, told), True)
            assert_truth(self, ring_holds(other, told), True)
            self.assertNotEqual(odd_ring_holds(one, told), odd_ring_holds(other, told))
        return word

    def test_ordinary(self):
        self.assertEqual(told_turning(ONE, TURNED), ("turned", (1, 4)))
        self.assertEqual(told_turning(ONE, turned(ONE, (0, 2, 3))), ("turned", (1, 4)))
        self.assertEqual(told_turning(ONE, ONE), ("turned", ()))
        word, ring = told_turning(ONE, PARTED)
        self.assertEqual((word, sorted(ring[0]), sorted(ring[1])), ("ring", [0, 1, 2], [0, 1, 2]))

    def test_no_ties(self):
        for many in (1, 2, 40):
            self.assertEqual(told_turning((many, ()), (many, ())), ("turned", ()))

    def test_two_ties_of_the_same_places(self):
        one = (2, ((0, 1, "friend"), (0, 1, "foe")))
        self.assertEqual(told_turning(one, (2, ((1, 0, "foe"), (0, 1, "friend")))), ("turned", (1,)))
        word, ring = told_turning(one, (2, ((1, 0, "foe"), (0, 1, "foe"))))
        self.assertEqual((word, sorted(ring[0]), sorted(ring[1])), ("ring", [0, 1], [0, 1]))

    def test_all_kinds_of_small_frames(self):
        seen = set()
        for web in WEBS[:8] + small_webs(25, places=4, ties=5):
            rings = list(all_rings(web))
            into = [kinds(turned(web, places)) for places in all_choices(web[0])]
            for foes in all_choices(len(web[1])):
                other = about(other_kinds(web, foes))
                word = self.check(web, other)
                seen.add(word)
                self.assertEqual(word == "turned", kinds(other) in into)
                same = all(foes_in(web, ring) % 2 == foes_in(other, ring) % 2 for ring in rings)
                self.assertEqual(word == "turned", same)
        self.assertEqual(seen, {"turned", "ring"})

    def test_several_parts(self):
        web = beside(ring_web(3, 1), (1, ()), ring_web(4, 2), ring_web(2, 1))
        self.assertEqual(told_turning(web, turned(web, (0, 3, 5, 8, 9))), ("turned", (1, 2, 5)))
        for tie in range(len(web[1])):
            self.assertEqual(self.check(web, flipped(web, tie)), "ring")

    def test_forty_places(self):
        for seed in range(20):
            for web in (great_web(seed, ties=120 - 3 * seed), great_holding_web(seed)[0], ring_web(40, seed)):
                places = some_places(web, seed)
                self.assertEqual(self.check(web, about(turned(web, places), seed)), "turned")
                self.check(web, great_kinds(web, seed))
        self.assertEqual(self.check(great_web(), great_kinds(great_web(), 5)), "ring")
        self.assertEqual(self.check(ring_web(40, 1), ring_web(40, 2)), "ring")

    def test_no_one_frame(self):
        for other in UNFRAMED:
            for one, second in ((ONE, other), (other, ONE)):
                with self.assertRaises(NoFrame) as told:
                    told_turning(one, second)
                self.assertIs(type(told.exception), NoFrame)
                self.assertIsInstance(told.exception, WebError)

    def test_nothing_is_changed(self):
        for other in (TURNED, PARTED):
            assert_steady(self, told_turning, ONE, other)


def great_kinds(web, seed):
    return other_kinds(web, some_places((len(web[1]), ()), seed + 100))


class Holds(unittest.TestCase):
    def no(self, one, other, *things):
        for thing in things:
            assert_truth(self, turning_holds(one, other, thing), False)

    def test_any_places_that_turn(self):
        for places in all_choices(5):
            expected = kinds(turned(ONE, places)) == kinds(TURNED)
            assert_truth(self, turning_holds(ONE, TURNED, ("turned", places)), expected)
            self.no(ONE, PARTED, ("turned", places))
        for places in ((1, 4), (0, 2, 4), (1, 3), (0, 2, 3)):
            assert_truth(self, turning_holds(ONE, TURNED, ("turned", places)), True)

    def test_any_ring_that_parts(self):
        for ring in all_rings(ONE):
            expected = foes_in(ONE, ring) % 2 != foes_in(PARTED, ring) % 2
            assert_truth(self, turning_holds(ONE, PARTED, ("ring", ring)), expected)
            self.no(ONE, TURNED, ("ring", ring))
        assert_truth(self, turning_holds(ONE, PARTED, ("ring", ((2, 1, 0), (1, 0, 2)))), True)

    def test_rings_that_are_odd_in_both_or_in_none(self):
        odd, even = ring_web(3, 1), ring_web(3, 2)
        ring = ((0, 1, 2), (0, 1, 2))
        self.no(odd, odd, ("ring", ring))
        self.no(even, even, ("ring", ring))
        self.no(odd, ring_web(3, 3), ("ring", ring))
        assert_truth(self, turning_holds(odd, even, ("ring", ring)), True)
        assert_truth(self, turning_holds(even, odd, ("ring", ring)), True)

    def test_all_choices_and_rings_of_small_webs(self):
        for seed, web in enumerate(small_webs(40, places=4, ties=5)):
            for other in (about(turned(web, some_places(web, seed))), great_kinds(web, seed)):
                for places in all_choices(web[0]):
                    expected = kinds(turned(web, places)) == kinds(other)
                    assert_truth(self, turning_holds(web, other, ("turned", places)), expected)
                for ring in all_rings(web):
                    expected = foes_in(web, ring) % 2 != foes_in(other, ring) % 2
                    assert_truth(self, turning_holds(web, other, ("ring", ring)), expected)

    def test_no_ties(self):
        web = (3, ())
        for places in all_choices(3):
            assert_truth(self, turning_holds(web, web, ("turned", places)), True)
        self.no(web, web, ("turned", (3,)), ("turned", (0, 0)), ("turned", (1, 0)), ("ring", ()), ("ring", ((), ())))

    def test_places_twice_not_rising_or_not_there(self):
        self.no(ONE, TURNED, *[("turned", places) for places in (
            (4, 1), (1, 1, 4), (1, 4, 4), (1, 4, 1), (1, 4, 5), (-4, -1), (-4, 4), (1, -1), (1, 4, SIXTY),
            (-SIXTY, 1, 4), (0, 4, 2), (2, 0, 4))])
        self.no(ONE, ONE, *[("turned", places) for places in (
            (3, 3), (5,), (-1,), (1, 1), (0, 0), (4, 3, 2, 1, 0), (SIXTY,), (0, 1, 2, 3, 4, 5), (0, 0, 1, 2))])
        assert_truth(self, turning_holds(ONE, ONE, ("turned", ())), True)
        assert_truth(self, turning_holds(ONE, ONE, ("turned", (0, 1, 2, 3, 4))), True)

    def test_truths_are_no_places(self):
        self.no(ONE, TURNED, ("turned", (True, 4)), ("turned", (False, 2, 4)), ("turned", (0, 2, True)))
        self.no(ring_web(2, 1), ring_web(2, 2), ("ring", ((False, 1), (0, 1))), ("ring", ((0, 1), (0, True))))

    def test_other_words(self):
        ring = ((0, 1, 2), (0, 1, 2))
        for word in ("", "Turned", "TURNED", "turned ", " ring", "turn", "rings", "Ring", None, True, 0, ("turned",),
                     ["ring"], {"ring": 1}, ()):
            self.no(ONE, TURNED, (word, (1, 4)))
            self.no(ONE, PARTED, (word, ring))
        self.no(ONE, TURNED, ("ring", (1, 4)))
        self.no(ONE, PARTED, ("turned", ring))

    def test_a_part_more_or_less(self):
        ring = ((0, 1, 2), (0, 1, 2))
        self.no(ONE, TURNED, (), ("turned",), ("turned", (1, 4), None), ("turned", (1, 4), ()), ((1, 4), "turned"),
                ("turned", 1, 4), (("turned", (1, 4)),), (1, 4), "turned", ("turned", ((1, 4),)), ("turned", (1,)),
                ("turned", None))
        self.no(ONE, PARTED, ("ring",), ("ring", ring, None), ("ring", *ring), (ring, "ring"), ring, (ring,),
                ("ring", ring[0]), ("ring", (ring,)), ("ring", (ring[0], ring[1][:2])), ("ring", (*ring, ())))

    def test_anything(self):
        for one, other in ((ONE, TURNED), (ONE, PARTED), ((1, ()), (1, ())), (great_web(), great_web())):
            self.no(one, other, *plain_wrong())
            self.no(one, other, *[("ring", thing) for thing in plain_wrong()])
            self.no(one, other, *[("turned", thing) for thing in plain_wrong() if thing != ()])
            self.no(one, other, *[(thing, ()) for thing in plain_wrong()])
        self.no(ONE, TURNED, *spoiled(("turned", (1, 4))))
        self.no(ONE, PARTED, *spoiled(("ring", ((0, 1, 2), (0, 1, 2)))))
        self.no(ONE, PARTED, *spoiled(("ring", ((2, 1, 0), (1, 0, 2)))))

    def test_no_one_frame_whatever_the_thing(self):
        things = plain_wrong() + [("turned", ()), ("turned", (1, 4)), ("ring", ((0, 1, 2), (0, 1, 2)))]
        for other in UNFRAMED:
            for thing in things:
                for one, second in ((ONE, other), (other, ONE)):
                    with self.assertRaises(NoFrame):
                        turning_holds(one, second, thing)

    def test_nothing_is_changed(self):
        for thing in plain_wrong() + [("turned", (1, 4)), ("turned", [1, 4]), ("ring", [[0], {}])]:
            assert_steady(self, turning_holds, ONE, TURNED, thing)


if __name__ == "__main__":
    unittest.main()
