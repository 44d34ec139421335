"""Promises 2, 3, 21 and 22: the least weight by the faces, and flat papers that show it."""

import itertools
import unittest

from friendfoe.errors import NotFlat, TooMany, WebError
from friendfoe.facing import are_flat, faces_of, odd_faces
from friendfoe.flatchecks import flat_paper_holds
from friendfoe.flatting import flat_mend, flat_paper
from friendfoe.mending import least_mend, mend_holds, mend_weight
from friendfoe.turning import turned
from samples import (BAD, EVEN_PAIR, FLAT, ODD_PAIR, WHEEL, assert_plain, assert_steady, assert_truth, fan,
                     flat_beside, flat_web, least_slowly, renumbered, renumbered_orders, renumbered_weights, ring_web,
                     some_places, some_weights)

GREAT = 10 ** 30


def ladder(many):
    """A row of so many squares, one beside the other, and their orders; ties along the row first, then the rungs."""
    ties, orders = [], [[] for place in range(2 * many + 2)]
    for at in range(many):
        ties += [(at, at + 1), (many + 1 + at, many + 2 + at)]
    ties += [(at, many + 1 + at) for at in range(many + 1)]
    for at in range(many + 1):
        behind, ahead = 2 * at - 2, 2 * at
        rung = 2 * many + at
        upper = [tie for tie in (behind, rung, ahead) if 0 <= tie < 2 * many or tie == rung]
        lower = [tie for tie in (ahead + 1, rung, behind + 1) if 0 <= tie < 2 * many or tie == rung]
        orders[at], orders[many + 1 + at] = upper, lower
    return (2 * many + 2, tuple((*tie, "friend") for tie in ties)), tuple(tuple(row) for row in orders)


def with_foes(web, numbers):
    return (web[0], tuple((one, other, "foe" if number in numbers else "friend")
                          for number, (one, other, kind) in enumerate(web[1])))


class Told(unittest.TestCase):
    def told(self, web, orders, weights, expected):
        """The weight is told with a mend of it, and a paper holds for it, and for no more."""
        self.assertTrue(are_flat(web, orders))
        told = flat_mend(web, orders, weights)
        assert_plain(self, told)
        weight, ties = told
        self.assertEqual(weight, expected)
        assert_truth(self, mend_holds(web, ties), True)
        self.assertEqual(mend_weight(weights, ties), weight)
        paper = flat_paper(web, orders, weights)
        assert_plain(self, paper)
        assert_truth(self, flat_paper_holds(web, orders, weights, weight, paper), True)
        assert_truth(self, flat_paper_holds(web, orders, weights, weight + 1, paper), False)
        odd, faces = odd_faces(web, orders), faces_of(web, orders)
        layers, table = paper
        self.assertEqual([len(layer) for layer in layers], [len(faces)] * len(odd))
        choices = [choice for many in range(2, len(odd) + 1, 2) for choice in itertools.combinations(odd, many)]
        self.assertEqual([row[0] for row in table], sorted(choices))
        return ties

    def refused(self, error, web, orders):
        for weights in ((), (None,), ((GREAT,) * len(web[1]),)):
            for function in (flat_mend, flat_paper):
                with self.assertRaises(error) as told:
                    function(web, orders, *weights)
                self.assertIs(type(told.exception), error)
                self.assertIsInstance(told.exception, WebError)

    def test_ordinary(self):
        # Between the two odd faces stands the one foe tie of the ring of three.
        self.assertEqual(self.told(WHEEL, FLAT, None, 1), (2,))
        self.assertEqual(self.told(WHEEL, FLAT, (9, 9, 3, 9, 9, 9), 3), (2,))
        # Another way leads through a face beside: along ties 0 and 3, or 1 and 5.
        self.assertEqual(self.told(WHEEL, FLAT, (4, 9, 30, 5, 9, 9), 9), (0, 3))
        self.assertEqual(self.told(WHEEL, FLAT, (9, 4, 30, 9, 9, 6), 10), (1, 5))

    def test_weights_left_out_or_none(self):
        for seed in range(10):
            web, orders = flat_web(seed)
            self.assertEqual(flat_mend(web, orders), flat_mend(web, orders, None))
            self.assertEqual(flat_paper(web, orders), flat_paper(web, orders, None))
            self.assertEqual(flat_mend(web, orders)[0], flat_mend(web, orders, (1,) * len(web[1]))[0])

    def test_no_odd_face(self):
        for web, orders in (((1, ()), ((),)), ((40, ()), ((),) * 40), EVEN_PAIR, flat_web(3, 40, 110, flips=0),
                            flat_beside(EVEN_PAIR, ((2, ()), ((), ())), flat_web(4, 9, 20, flips=0))):
            for weights in ((), (None,), ((GREAT,) * len(web[1]),)):
                self.assertEqual(flat_mend(web, orders, *weights), (0, ()))
                self.assertEqual(flat_paper(web, orders, *weights), ((), ()))
            assert_truth(self, flat_paper_holds(web, orders, None, 0, ((), ())), True)
            assert_truth(self, flat_paper_holds(web, orders, None, 1, ((), ())), False)

    def test_one_tie_between_two_faces(self):
        self.told(*ODD_PAIR, None, 1)
        self.assertEqual(self.told(*ODD_PAIR, (7, 5), 5), (1,))
        self.assertEqual(self.told(*ODD_PAIR, (GREAT, GREAT + 1), GREAT), (0,))

    def test_a_tie_with_one_face_on_both_sides(self):
        web = (4, ring_web(2, 1)[1] + ((1, 2, "foe"), (2, 3, "friend")))
        self.assertEqual(self.told(web, ((0, 1), (0, 1, 2), (2, 3), (3,)), (5, 4, 1, 1), 4), (1,))

    def test_two_pairs_across(self):
        # Four squares in a row; the odd ones are paired with those beside them or with the outer face, as is lightest.
        web, orders = ladder(4)
        self.assertEqual(len(faces_of(web, orders)), 5)
        web = with_foes(web, (8, 12))
        self.told(web, orders, None, 2)
        web = with_foes(web, (9, 11))
        self.assertEqual(self.told(web, orders, (9,) * 8 + (9, 2, 9, 2, 9), 4), (9, 11))
        self.assertEqual(self.told(web, orders, (3,) * 8 + (9, 8, 2, 9, 9), 8)[2:], (10,))

    def test_the_least_of_small_webs(self):
        for seed in range(150):
            web, orders = flat_web(seed, 2 + seed % 6, 1 + seed % 6 + seed % 8)
            for weights in (None, some_weights(web, seed), some_weights(web, seed, GREAT)):
                least = least_slowly(web, weights)
                self.assertEqual(least_mend(web, weights)[0], least)
                self.told(web, orders, weights, least)

    def test_parts(self):
        for seed in range(40):
            web, orders = flat_beside(flat_web(seed, 5, 9, flips=2), ((1, ()), ((),)), EVEN_PAIR,
                                      flat_web(seed + 100, 6, 9, flips=1), flat_web(seed + 200, 3, 6, flips=1))
            for weights in (None, some_weights(web, seed), some_weights(web, seed, GREAT)):
                self.told(web, orders, weights, least_mend(web, weights)[0])

    def test_four_parts_of_two_odd_faces(self):
        for weights in (None, (5, 9, 3, 9, 8, 2, 7, 7), (GREAT,) * 8, (1,) * 6 + (GREAT,) * 2):
            web, orders = flat_beside(*[ODD_PAIR] * 4)
            self.told(web, orders, weights, least_mend(web, weights)[0])

    def test_great_webs(self):
        for seed in range(30):
            web, orders = flat_web(seed, 40, 60 + 2 * seed)
            if len(odd_faces(web, orders)) <= 8:
                for weights in (None, some_weights(web, seed), some_weights(web, seed, GREAT)):
                    self.told(web, orders, weights, flat_mend(web, orders, weights)[0])
        web, orders = flat_web(3, 2, 120)
        for weights in (None, some_weights(web, 3, GREAT)):
            self.told(web, orders, weights, least_mend(web, weights)[0])

    def test_great_ways(self):
        # A long row of squares with an odd one at each end, and no light way out.
        web, orders = ladder(19)
        self.assertEqual(web[0], 40)
        web = with_foes(web, (38, 57))
        heavy = (GREAT,) * 38 + (GREAT,) + (1,) * 18 + (GREAT,)
        self.assertEqual(self.told(web, orders, heavy, 18), tuple(range(39, 57)))
        self.told(web, orders, None, 2)

    def test_eight_odd_faces_and_ten(self):
        for many in (2, 4, 6, 8):
            web, orders = fan(many)
            self.assertEqual(odd_faces(web, orders), tuple(range(many)))
            self.told(web, orders, None, many // 2)
            weights = some_weights(web, many, GREAT)
            self.told(web, orders, weights, least_slowly(web, weights))
        for many in (10, 12, 120):
            self.refused(TooMany, *fan(many))
        self.refused(TooMany, *flat_beside(*[ODD_PAIR] * 5))
        self.refused(TooMany, *flat_beside(fan(8), EVEN_PAIR, ODD_PAIR))
        # Many even faces are not too many.
        self.told(*flat_beside(fan(8), *[EVEN_PAIR] * 18), None, 4)

    def test_not_flat(self):
        self.refused(NotFlat, WHEEL, BAD)
        self.refused(NotFlat, *flat_beside((WHEEL, FLAT), (WHEEL, BAD)))
        even = with_foes(WHEEL, ())
        self.refused(NotFlat, even, BAD)

    def test_not_flat_ahead_of_too_many(self):
        web, orders = flat_beside((WHEEL, BAD), fan(10))
        self.assertGreater(len(odd_faces(web, orders)), 8)
        self.refused(NotFlat, web, orders)
        web, orders = flat_beside(fan(10), (WHEEL, BAD))
        self.refused(NotFlat, web, orders)

    def test_turned_about(self):
        for seed in range(20):
            web, orders = flat_web(seed, 9, 17)
            weights = some_weights(web, seed)
            weight = flat_mend(web, orders, weights)[0]
            other = turned(web, some_places(web, seed))
            self.told(other, orders, weights, weight)
            # What shows it for the one shows it for the other.
            assert_truth(self, flat_paper_holds(other, orders, weights, weight, flat_paper(web, orders, weights)), True)

    def test_numbered_otherwise(self):
        for seed in range(20):
            web, orders = flat_beside(flat_web(seed, 9, 17, flips=2), flat_web(seed, 4, 9, flips=2))
            weights = some_weights(web, seed)
            other, places, numbers = renumbered(web, seed)
            self.told(other, renumbered_orders(orders, places, numbers), renumbered_weights(weights, numbers),
                      flat_mend(web, orders, weights)[0])

    def test_other_orders_of_the_same_web(self):
        for seed in range(20):
            web, orders = flat_web(seed, 8, 14, flips=3)
            weights = some_weights(web, seed)
            self.told(web, tuple(row[::-1] for row in orders), weights, flat_mend(web, orders, weights)[0])

    def test_nothing_is_changed(self):
        for web, orders in ((WHEEL, FLAT), flat_web(1, 40, 100, flips=2), ((1, ()), ((),))):
            for function in (flat_mend, flat_paper):
                assert_steady(self, function, web, orders)
                assert_steady(self, function, web, orders, some_weights(web, 1, GREAT))


if __name__ == "__main__":
    unittest.main()
