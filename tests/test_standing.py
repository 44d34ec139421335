"""Promises 2, 3, 14 and 15: stands while ties come and are taken back."""

import random
import unittest

from friendfoe.errors import NoTie, WebError
from friendfoe.parting import parts_of
from friendfoe.ringing import odd_ring_holds
from friendfoe.siding import sides_of
from friendfoe.standing import Stand
from samples import WEBS, assert_plain, assert_truth, great_holding_web, great_web, ring_web, small_webs


class Slow:
    """The same by another way: each tie is tried with the kept ones by the sides of the web that they make."""

    def __init__(self, many):
        self.many = many
        self.rows = []

    def kept_web(self):
        return (self.many, tuple(tie for tie, keeps in self.rows if keeps))

    def come(self, tie):
        keeps = sides_of((self.many, self.kept_web()[1] + (tie,))) is not None
        self.rows.append((tie, keeps))
        return keeps

    def between(self, one, other):
        web = self.kept_web()
        if not any(one in part and other in part for part in parts_of(web)):
            return None
        sides = sides_of(web)
        return "together" if sides[one] == sides[other] else "apart"

    def all_told(self):
        places = range(self.many)
        return ((self.many, tuple(tie for tie, keeps in self.rows)), sides_of(self.kept_web()),
                tuple(number for number, (tie, keeps) in enumerate(self.rows) if not keeps),
                [self.between(one, other) for one in places for other in places])


def all_told(stand, many):
    return (stand.web(), stand.sides(), stand.broken(),
            [stand.between(one, other) for one in range(many) for other in range(many)])


def random_tie(chance, many):
    return (*chance.sample(range(many), 2), chance.choice(["friend", "foe"]))


class Stands(unittest.TestCase):
    def come(self, stand, tie):
        """Whether the tie is kept; the ring of one that breaks is an odd one of it and ties kept ahead of it."""
        broken = stand.broken()
        number = len(stand.web()[1])
        ring = stand.come(*tie)
        self.assertEqual(stand.web()[1][number:], (tie,))
        if ring is None:
            self.assertEqual(stand.broken(), broken)
            return True
        assert_truth(self, odd_ring_holds(stand.web(), ring), True)
        self.assertIn(number, ring[1])
        self.assertFalse(set(ring[1]) & set(broken))
        self.assertEqual(stand.broken(), broken + (number,))
        assert_plain(self, ring)
        return False

    def test_ordinary(self):
        stand = Stand(4)
        self.assertIsNone(stand.come(0, 1, "foe"))
        self.assertIsNone(stand.come(2, 1, "foe"))
        self.assertEqual(stand.sides(), (0, 1, 0, 0))
        self.assertEqual([stand.between(0, 2), stand.between(1, 2), stand.between(0, 3)], ["together", "apart", None])
        places, ties = stand.come(0, 2, "foe")
        self.assertEqual((sorted(places), sorted(ties)), ([0, 1, 2], [0, 1, 2]))
        self.assertIsNone(stand.come(0, 2, "friend"))
        self.assertIsNone(stand.come(3, 2, "foe"))
        self.assertEqual(stand.web(), (4, ((0, 1, "foe"), (2, 1, "foe"), (0, 2, "foe"), (0, 2, "friend"),
                                           (3, 2, "foe"))))
        self.assertEqual(stand.broken(), (2,))
        self.assertEqual(stand.sides(), (0, 1, 0, 1))

    def test_no_ties(self):
        for many in (1, 2, 40):
            stand = Stand(many)
            self.assertEqual(stand.web(), (many, ()))
            self.assertEqual(stand.sides(), (0,) * many)
            self.assertEqual(stand.broken(), ())
            for one in range(many):
                for other in range(many):
                    self.assertEqual(stand.between(one, other), "together" if one == other else None)

    def test_a_place_and_itself(self):
        stand = Stand(3)
        for tie in ((0, 1, "foe"), (0, 1, "friend"), (1, 2, "foe")):
            self.come(stand, tie)
            self.assertEqual([stand.between(place, place) for place in range(3)], ["together"] * 3)

    def test_numbers_of_all_ties_that_are_there(self):
        # Broken ties have numbers too, so that those of the kept ones are not in a row.
        stand = Stand(3)
        stand.come(0, 1, "foe")
        self.assertEqual(sorted(stand.come(1, 0, "friend")[1]), [0, 1])
        self.assertEqual(sorted(stand.come(0, 1, "friend")[1]), [0, 2])
        self.assertIsNone(stand.come(1, 2, "friend"))
        places, ties = stand.come(2, 0, "friend")
        self.assertEqual((sorted(places), sorted(ties)), ([0, 1, 2], [0, 3, 4]))
        self.assertEqual(stand.broken(), (1, 2, 4))

    def test_a_broken_tie_leads_nowhere(self):
        stand = Stand(2)
        self.come(stand, (0, 1, "foe"))
        for turn in range(5):
            self.assertFalse(self.come(stand, (1, 0, "friend")))
            self.assertEqual((stand.between(0, 1), stand.sides()), ("apart", (0, 1)))
            self.assertTrue(self.come(stand, (1, 0, "foe")))

    def test_the_fixed_choice(self):
        stand = Stand(6)
        for tie, sides in (((5, 4, "foe"), (0, 0, 0, 0, 0, 1)), ((3, 2, "foe"), (0, 0, 0, 1, 0, 1)),
                           ((5, 2, "friend"), (0, 0, 0, 1, 1, 0)), ((0, 2, "foe"), (0, 0, 1, 0, 0, 1))):
            self.come(stand, tie)
            self.assertEqual(stand.sides(), sides)

    def test_forty_places_around(self):
        for foes in (1, 2, 39, 40):
            stand = Stand(40)
            ties = ring_web(40, foes)[1]
            for tie in ties[:39]:
                self.assertTrue(self.come(stand, tie))
            ring = stand.come(*ties[39])
            if foes % 2 == 0:
                self.assertIsNone(ring)
            else:
                self.assertEqual((sorted(ring[0]), sorted(ring[1])), (list(range(40)), list(range(40))))

    def test_as_another_way_tells(self):
        chance = random.Random(4)
        for turn in range(60):
            many = chance.randint(2, 7)
            stand, slow = Stand(many), Slow(many)
            for step in range(30):
                if slow.rows and chance.random() < 0.4:
                    self.assertIsNone(stand.back())
                    slow.rows.pop()
                else:
                    tie = random_tie(chance, many)
                    self.assertEqual(self.come(stand, tie), slow.come(tie))
                self.assertEqual(all_told(stand, many), slow.all_told())

    def test_forty_places_and_120_ties(self):
        for web in (great_web(), great_web(2), great_holding_web()[0]):
            stand, slow = Stand(40), Slow(40)
            for tie in web[1]:
                self.assertEqual(self.come(stand, tie), slow.come(tie))
            self.assertEqual(all_told(stand, 40), slow.all_told())
            self.assertEqual(stand.web(), web)
            for turn in range(120):
                stand.back()
                slow.rows.pop()
                if turn % 10 == 0 or turn == 119:
                    self.assertEqual(all_told(stand, 40), slow.all_told())
            self.refused(stand)
            for tie in web[1]:
                self.assertEqual(self.come(stand, tie), slow.come(tie))
            self.assertEqual(all_told(stand, 40), slow.all_told())

    def test_all_come_and_go_many_times(self):
        chance = random.Random(9)
        stand = Stand(40)
        for step in range(3000):
            if stand.web()[1] and (chance.random() < 0.4 or len(stand.web()[1]) == 120):
                stand.back()
            else:
                stand.come(*random_tie(chance, 40))
        again = Stand(40)
        for tie in stand.web()[1]:
            again.come(*tie)
        self.assertEqual(all_told(stand, 40), all_told(again, 40))

    def test_sides_of_a_web_in_which_they_hold(self):
        for web in WEBS + small_webs(60):
            stand = Stand(web[0])
            for tie in web[1]:
                self.come(stand, tie)
            self.assertEqual(stand.broken() == (), sides_of(web) is not None)
            if stand.broken() == ():
                self.assertEqual(stand.sides(), sides_of(web))

    def refused(self, stand):
        before = stand.web()
        with self.assertRaises(NoTie) as told:
            stand.back()
        self.assertIs(type(told.exception), NoTie)
        self.assertIsInstance(told.exception, WebError)
        self.assertEqual(stand.web(), before)

    def test_taken_back(self):
        for ties in (((0, 1, "foe"),), ((0, 1, "foe"), (1, 0, "friend")), ring_web(3, 1)[1], ring_web(3, 2)[1]):
            stand = Stand(3)
            told = [all_told(stand, 3)]
            for tie in ties:
                self.come(stand, tie)
                told.append(all_told(stand, 3))
            for before in told[-2::-1]:
                self.assertIsNone(stand.back())
                self.assertEqual(all_told(stand, 3), before)
            self.refused(stand)
            self.refused(stand)
            self.assertEqual(all_told(stand, 3), told[0])

    def test_a_tie_breaks_no_more_once_the_one_ahead_is_gone(self):
        stand = Stand(2)
        self.assertTrue(self.come(stand, (0, 1, "foe")))
        self.assertFalse(self.come(stand, (0, 1, "friend")))
        stand.back()
        stand.back()
        self.assertTrue(self.come(stand, (0, 1, "friend")))
        self.assertFalse(self.come(stand, (0, 1, "foe")))
        self.assertEqual(stand.broken(), (1,))

    def test_none_taken_back_at_first(self):
        for many in (1, 40):
            self.refused(Stand(many))

    def test_two_stands(self):
        one, other = Stand(3), Stand(3)
        one.come(0, 1, "foe")
        one.come(1, 0, "friend")
        self.assertEqual(all_told(other, 3), all_told(Stand(3), 3))
        self.refused(other)
        other.come(0, 1, "friend")
        self.assertEqual((one.between(0, 1), other.between(0, 1)), ("apart", "together"))
        self.assertEqual((one.broken(), other.broken()), ((1,), ()))
        one.back()
        self.assertEqual((len(one.web()[1]), len(other.web()[1])), (1, 1))

    def test_asking_changes_nothing(self):
        stand = Stand(7)
        for tie in small_webs(1, places=7, ties=8)[-1][1] + ((0, 6, "foe"), (6, 0, "friend")):
            if max(tie[:2]) < 7:
                stand.come(*tie)
        first = all_told(stand, 7)
        self.assertEqual(all_told(stand, 7), first)
        told = stand.web()
        stand.come(0, 1, "foe")
        self.assertEqual(told, first[0])

    def test_kinds_of_values(self):
        stand = Stand(3)
        for tie in ((0, 1, "foe"), (1, 0, "friend"), (1, 2, "friend")):
            stand.come(*tie)
        for told in (stand.web(), stand.sides(), stand.broken()):
            self.assertIs(type(told), tuple)
            assert_plain(self, told)
        self.assertIs(type(stand.between(0, 2)), str)


if __name__ == "__main__":
    unittest.main()
