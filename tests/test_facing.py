"""Promises 2, 3, 19 and 20: orders, faces, flat orders and odd faces."""

import itertools
import random
import unittest

from friendfoe.facing import are_flat, faces_of, is_orders, odd_faces
from friendfoe.parting import parts_of
from friendfoe.turning import turned
from samples import (FLAT, SIXTY, WEBS, WHEEL, about, assert_plain, assert_steady, assert_truth, face_corners,
                     flat_beside, flat_web, great_web, plain_wrong, renumbered, renumbered_orders, ring_web,
                     small_webs, some_places, spoiled, spun)

PATH = (3, ((0, 1, "friend"), (1, 2, "foe")))


def rising_orders(web):
    """The orders of which each place has its ties rising."""
    return tuple(tuple(number for number, tie in enumerate(web[1]) if place in tie[:2]) for place in range(web[0]))


def some_orders(web, seed):
    chance = random.Random(seed)
    return tuple(tuple(chance.sample(row, len(row))) for row in rising_orders(web))


def exchanged(orders, place, at, other):
    """The orders with two ties of the place exchanged."""
    row = list(orders[place])
    row[at], row[other] = row[other], row[at]
    return orders[:place] + (tuple(row),) + orders[place + 1:]


def faces_slowly(web, orders):
    """The faces by a walk of its own from each step, then put in order."""
    ties = [tie[:2] for tie in web[1]]
    faces = set()
    for number, tie in enumerate(ties):
        for place in tie:
            corners = face_corners(ties, orders, (number, place))
            steps = [(number, place)]
            for come_to, by in corners[:-1]:
                row = orders[come_to]
                steps.append((row[(row.index(by) + 1) % len(row)], come_to))
            least = steps.index(min(steps))
            faces.add(tuple(steps[least:] + steps[:least]))
    return tuple(sorted(faces))


def flat_slowly(web, faces):
    for part in parts_of(web):
        ties = [tie for tie in web[1] if tie[0] in part]
        own = [face for face in faces if face[0][1] in part]
        if ties and len(part) - len(ties) + len(own) != 2:
            return False
    return True


class Orders(unittest.TestCase):
    def no(self, web, *things):
        for thing in things:
            assert_truth(self, is_orders(web, thing), False)

    def test_ordinary(self):
        assert_truth(self, is_orders(WHEEL, FLAT), True)
        for orders in itertools.product(*[itertools.permutations(row) for row in rising_orders(WHEEL)]):
            assert_truth(self, is_orders(WHEEL, orders), True)

    def test_no_ties(self):
        for many in (1, 2, 40):
            assert_truth(self, is_orders((many, ()), ((),) * many), True)
            self.no((many, ()), (), ((),) * (many - 1), ((),) * (many + 1), ((0,),) + ((),) * (many - 1),
                    ((),) * many + (0,))

    def test_all_sorts(self):
        for seed, web in enumerate(WEBS + small_webs(60)):
            assert_truth(self, is_orders(web, some_orders(web, seed)), True)

    def test_ties_of_other_places_missing_or_twice(self):
        self.no(WHEEL, ((0, 3), (1, 4, 0), (2, 5, 1), (3, 4, 5)), ((0, 3, 2, 0), *FLAT[1:]), ((0, 3, 3), *FLAT[1:]),
                ((0, 3, 2, 1), *FLAT[1:]), ((0, 3, 1), *FLAT[1:]), ((), *FLAT[1:]), FLAT[::-1], FLAT[1:] + FLAT[:1],
                ((0, 3, 6), *FLAT[1:]), ((0, 3, -1), *FLAT[1:]), ((0, 3, 2, 6), *FLAT[1:]), ((0, 3, -4), *FLAT[1:]),
                ((0, 3, SIXTY), *FLAT[1:]), FLAT[:3] + ((3, 4, 5, 5),), FLAT[:3] + ((3, 4, 4, 5),))
        self.no(ring_web(2, 1), ((0, 1),), ((0, 1), (0,)), ((0,), (1,)), ((0, 0), (1, 1)), ((0, 1), (0, 0)))

    def test_truths_are_no_numbers(self):
        web = ring_web(2, 1)
        for orders in (((0, True), (0, 1)), ((False, 1), (0, 1)), ((0, 1), (1, False)), ((0, 1), (True, 0))):
            self.no(web, orders)

    def test_a_part_more_or_less(self):
        self.no(WHEEL, (), FLAT[:3], FLAT + ((),), FLAT + FLAT[:1], (FLAT,), FLAT[0], (FLAT, FLAT), (None,) + FLAT[1:],
                (0, *FLAT[1:]), ([*FLAT[0]], *FLAT[1:]), ((0, (3,), 2), *FLAT[1:]), ((0, 3, "2"), *FLAT[1:]),
                ((0, 3, None), *FLAT[1:]), ((0, 3, [2]), *FLAT[1:]), ((0, 3, {2: 2}), *FLAT[1:]), [*FLAT],
                dict(enumerate(FLAT)), "0 3 2", tuple((number, number) for number in range(4)))

    def test_anything(self):
        for web in (WHEEL, PATH, ring_web(2, 1), great_web(), (10 ** 31, ())):
            self.no(web, *plain_wrong())
        self.no((1, ()), *[thing for thing in plain_wrong() if thing != ((),)])
        self.no((2, ()), *[thing for thing in plain_wrong() if thing != ((), ())])
        self.no(WHEEL, *spoiled(FLAT))
        self.no(PATH, *spoiled(((0,), (1, 0), (1,))))

    def test_nothing_is_changed(self):
        for thing in plain_wrong() + [FLAT, [*FLAT], ([0, 3, 2], *FLAT[1:])]:
            assert_steady(self, is_orders, WHEEL, thing)


class Faces(unittest.TestCase):
    def test_ordinary(self):
        # From 0 along tie 0 to 1: there tie 1 stands behind tie 0, at 2 tie 2 behind tie 1, at 0 tie 0 behind tie 2.
        self.assertEqual(faces_of(WHEEL, FLAT), (
            ((0, 0), (1, 1), (2, 2)),
            ((0, 1), (3, 0), (4, 3)),
            ((1, 2), (4, 1), (5, 3)),
            ((2, 0), (5, 2), (3, 3)),
        ))

    def test_the_other_way_about(self):
        self.assertEqual(faces_of(WHEEL, tuple(row[::-1] for row in FLAT)), (
            ((0, 0), (4, 1), (3, 3)),
            ((0, 1), (2, 0), (1, 2)),
            ((1, 1), (5, 2), (4, 3)),
            ((2, 2), (3, 0), (5, 3)),
        ))

    def test_one_tie(self):
        self.assertEqual(faces_of((2, ((1, 0, "foe"),)), ((0,), (0,))), (((0, 0), (0, 1)),))

    def test_one_face_on_both_sides(self):
        self.assertEqual(faces_of(PATH, ((0,), (0, 1), (1,))), (((0, 0), (1, 1), (1, 2), (0, 1)),))
        self.assertEqual(faces_of(PATH, ((0,), (1, 0), (1,))), (((0, 0), (1, 1), (1, 2), (0, 1)),))

    def test_two_ties_of_the_same_places(self):
        for web in ((2, ((0, 1, "foe"), (0, 1, "foe"))), (2, ((0, 1, "foe"), (1, 0, "foe")))):
            for orders in (((0, 1), (0, 1)), ((1, 0), (0, 1)), ((1, 0), (1, 0))):
                self.assertEqual(faces_of(web, orders), (((0, 0), (1, 1)), ((0, 1), (1, 0))))
        three = (2, ((0, 1, "foe"),) * 3)
        self.assertEqual(faces_of(three, ((0, 1, 2), (2, 1, 0))),
                         (((0, 0), (2, 1)), ((0, 1), (1, 0)), ((1, 1), (2, 0))))
        self.assertEqual(faces_of(three, ((0, 1, 2), (0, 1, 2))), (
            ((0, 0), (1, 1), (2, 0), (0, 1), (1, 0), (2, 1)),))

    def test_no_ties_and_places_without(self):
        self.assertEqual(faces_of((1, ()), ((),)), ())
        self.assertEqual(faces_of((40, ()), ((),) * 40), ())
        self.assertEqual(faces_of((4, ((3, 1, "foe"),)), ((), (0,), (), (0,))), (((0, 1), (0, 3)),))

    def test_begun_anywhere(self):
        for seed in range(20):
            self.assertEqual(faces_of(WHEEL, spun(FLAT, seed)), faces_of(WHEEL, FLAT))
            web, orders = flat_web(seed, 7, 12)
            self.assertEqual(faces_of(web, spun(orders, seed + 1)), faces_of(web, orders))

    def test_parts_have_faces_of_their_own(self):
        web, orders = flat_beside((WHEEL, FLAT), ((1, ()), ((),)), (PATH, ((0,), (0, 1), (1,))), (WHEEL, FLAT))
        faces = faces_of(web, orders)
        self.assertEqual(len(faces), 9)
        self.assertEqual(faces[:4], faces_of(WHEEL, FLAT))
        self.assertEqual(faces[4], ((6, 5), (7, 6), (7, 7), (6, 6)))
        self.assertEqual(faces[5:], tuple(tuple((tie + 8, place + 8) for tie, place in face) for face in faces[:4]))

    def test_least_steps_are_told_by_tie_then_place(self):
        for seed, web in enumerate(small_webs(60)):
            faces = faces_of(web, some_orders(web, seed))
            self.assertEqual([min(face) for face in faces], [face[0] for face in faces])
            self.assertEqual(list(faces), sorted(faces))

    def test_each_step_in_just_one(self):
        for seed, web in enumerate(WEBS + small_webs(60)):
            steps = [step for face in faces_of(web, some_orders(web, seed)) for step in face]
            expected = [(number, place) for number, tie in enumerate(web[1]) for place in tie[:2]]
            self.assertEqual(sorted(steps), sorted(expected))

    def test_as_another_way_tells(self):
        for seed, web in enumerate(WEBS + small_webs(100)):
            orders = some_orders(web, seed)
            told = faces_of(web, orders)
            assert_plain(self, told)
            self.assertEqual(told, faces_slowly(web, orders))

    def test_kinds_change_no_face(self):
        for seed in range(10):
            web, orders = flat_web(seed)
            self.assertEqual(faces_of(turned(web, some_places(web, seed)), orders), faces_of(web, orders))

    def test_nothing_is_changed(self):
        for web, orders in ((WHEEL, FLAT), flat_web(1, 40, 100), ((1, ()), ((),))):
            assert_steady(self, faces_of, web, orders)


class Flat(unittest.TestCase):
    def flat(self, web, orders, expected):
        assert_truth(self, are_flat(web, orders), expected)

    def test_ordinary(self):
        self.flat(WHEEL, FLAT, True)
        self.flat(WHEEL, tuple(row[::-1] for row in FLAT), True)

    def test_two_ties_of_one_place_exchanged(self):
        for place in range(4):
            for at, other in ((0, 1), (1, 2), (0, 2)):
                self.flat(WHEEL, exchanged(FLAT, place, at, other), False)
        three = (2, ((0, 1, "foe"),) * 3)
        self.flat(three, ((0, 1, 2), (2, 1, 0)), True)
        self.flat(three, ((0, 1, 2), (0, 1, 2)), False)
        self.flat(three, ((0, 2, 1), (2, 1, 0)), False)

    def test_trees_and_rings_are_flat_in_all_orders(self):
        for orders in ((1, 0), (0, 1)):
            self.flat(PATH, ((0,), orders, (1,)), True)
        star = (5, tuple((0, place, "foe") for place in range(1, 5)))
        for row in itertools.permutations(range(4)):
            self.flat(star, (row, (0,), (1,), (2,), (3,)), True)
        for many in (2, 3, 40):
            self.flat(ring_web(many, 1), rising_orders(ring_web(many, 1)), True)

    def test_no_ties(self):
        for many in (1, 2, 40):
            self.flat((many, ()), ((),) * many, True)

    def test_each_part_by_itself(self):
        bad = exchanged(FLAT, 0, 0, 1)
        for orders, expected in (((FLAT, FLAT), True), ((FLAT, bad), False), ((bad, FLAT), False), ((bad, bad), False)):
            self.flat(*flat_beside(*[(WHEEL, part) for part in orders]), expected)
        self.flat(*flat_beside(((3, ()), ((), (), ())), (WHEEL, FLAT), ((1, ()), ((),))), True)
        self.flat(*flat_beside(((3, ()), ((), (), ())), (WHEEL, bad), ((1, ()), ((),))), False)

    def test_all_orders_of_five_foes_of_one_another(self):
        # Such a web has no flat orders at all.
        web = (5, tuple((one, other, "foe") for one, other in itertools.combinations(range(5), 2)))
        for seed in range(100):
            self.flat(web, some_orders(web, seed), False)

    def test_as_another_way_tells(self):
        told = set()
        for seed, web in enumerate(WEBS + small_webs(150)):
            orders = some_orders(web, seed)
            expected = flat_slowly(web, faces_slowly(web, orders))
            self.flat(web, orders, expected)
            told.add(expected)
        self.assertEqual(told, {True, False})

    def test_grown_webs(self):
        for seed in range(20):
            web, orders = flat_web(seed, 40, 39 + 4 * seed)
            self.flat(web, orders, True)
            self.flat(web, tuple(row[::-1] for row in orders), True)
            other, places, numbers = renumbered(web, seed)
            self.flat(other, renumbered_orders(orders, places, numbers), True)
            self.flat(about(web), orders, True)
        self.flat(*flat_web(1, 2, 120), True)
        self.flat(*flat_web(1, 40, 120), True)

    def test_nothing_is_changed(self):
        for orders in (FLAT, exchanged(FLAT, 0, 0, 1)):
            assert_steady(self, are_flat, WHEEL, orders)


class Odd(unittest.TestCase):
    def test_ordinary(self):
        # The ring of three, and of the three others the one at the foe tie of the ring.
        self.assertEqual(odd_faces(WHEEL, FLAT), (0, 3))
        self.assertEqual(odd_faces(turned(WHEEL, (3,)), FLAT), (0, 3))

    def test_a_foe_tie_with_one_face_on_both_sides(self):
        self.assertEqual(odd_faces(PATH, ((0,), (0, 1), (1,))), ())
        web = (3, ring_web(2, 1)[1] + ((1, 2, "foe"),))
        self.assertEqual(odd_faces(web, ((0, 1), (0, 1, 2), (2,))), (0, 1))

    def test_no_ties(self):
        self.assertEqual(odd_faces((3, ()), ((), (), ())), ())

    def test_orders_that_are_not_flat(self):
        three = (2, ((0, 1, "foe"), (0, 1, "friend"), (0, 1, "friend")))
        self.assertEqual(odd_faces(three, ((0, 1, 2), (0, 1, 2))), ())
        self.assertEqual(odd_faces(three, ((0, 1, 2), (2, 1, 0))), (0, 1))

    def test_by_hand_of_all_sorts(self):
        for seed, web in enumerate(WEBS + small_webs(60)):
            orders = some_orders(web, seed)
            expected = []
            for number, face in enumerate(faces_slowly(web, orders)):
                if [web[1][tie][2] for tie, place in face].count("foe") % 2:
                    expected.append(number)
            told = odd_faces(web, orders)
            assert_plain(self, told)
            self.assertEqual(told, tuple(expected))

    def test_turning_about_changes_none(self):
        for seed in range(20):
            web, orders = flat_web(seed, 9, 16)
            self.assertEqual(odd_faces(turned(web, some_places(web, seed)), orders), odd_faces(web, orders))

    def test_parts(self):
        web, orders = flat_beside((WHEEL, FLAT), (PATH, ((0,), (0, 1), (1,))), (WHEEL, FLAT))
        self.assertEqual(odd_faces(web, orders), (0, 3, 5, 8))

    def test_nothing_is_changed(self):
        assert_steady(self, odd_faces, WHEEL, FLAT)
        assert_steady(self, odd_faces, *flat_web(1, 40, 100))


if __name__ == "__main__":
    unittest.main()
