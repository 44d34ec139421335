"""Promises 2 and 4: whole numbers, things of anything, webs and weights."""

import unittest

from friendfoe.things import is_tuple_of, is_whole, is_whole_below, is_whole_from
from friendfoe.webs import is_web, is_weights, weight_of
from samples import SIXTY, WEBS, assert_steady, assert_truth, deep, great_web, plain_wrong, small_webs, spoiled


class Things(unittest.TestCase):
    def test_whole_numbers(self):
        for number in (0, 1, -1, SIXTY, -SIXTY):
            assert_truth(self, is_whole(number), True)
        for thing in (True, False, None, "1", "", (1,), [1], {1: 1}):
            assert_truth(self, is_whole(thing), False)

    def test_ranges(self):
        assert_truth(self, is_whole_from(1, 1), True)
        assert_truth(self, is_whole_from(1, 0), False)
        assert_truth(self, is_whole_from(1, True), False)
        assert_truth(self, is_whole_below(2, 1), True)
        assert_truth(self, is_whole_below(2, 2), False)
        assert_truth(self, is_whole_below(2, -1), False)
        assert_truth(self, is_whole_below(2, False), False)

    def test_tuples(self):
        assert_truth(self, is_tuple_of(2, (1, 2)), True)
        for thing in ((1,), (1, 2, 3), [1, 2], "ab", {1: 1, 2: 2}, None, 2):
            assert_truth(self, is_tuple_of(2, thing), False)


class Webs(unittest.TestCase):
    def test_webs(self):
        for web in WEBS + small_webs():
            assert_truth(self, is_web(web), True)

    def test_bounds_are_not_asked(self):
        assert_truth(self, is_web((SIXTY, ())), True)
        assert_truth(self, is_web((SIXTY, ((SIXTY - 1, 0, "foe"),))), True)
        assert_truth(self, is_web(great_web(many=41, ties=121)), True)
        assert_truth(self, is_web((2, ((0, 1, "foe"),) * 4000)), True)

    def test_no_web_without_a_place(self):
        for many in (0, -1, -SIXTY):
            assert_truth(self, is_web((many, ())), False)

    def test_ties_join_unlike_places_that_are_there(self):
        for one, other in ((0, 0), (1, 1), (0, 2), (2, 0), (0, -1), (-1, 0), (-2, -1), (0, SIXTY), (-SIXTY, 1)):
            assert_truth(self, is_web((2, ((one, other, "friend"),))), False)
        assert_truth(self, is_web((3, ((0, 1, "foe"), (2, 1, "friend"), (1, 1, "foe")))), False)

    def test_kinds(self):
        for kind in ("", "Friend", "FOE", "friend ", " foe", "foes", "f", "friend\n", None, True, 0, ("foe",), ["foe"]):
            assert_truth(self, is_web((2, ((0, 1, kind),))), False)

    def test_truths_are_no_numbers(self):
        assert_truth(self, is_web((True, ())), False)
        assert_truth(self, is_web((2, ((False, 1, "foe"),))), False)
        assert_truth(self, is_web((2, ((0, True, "foe"),))), False)

    def test_a_part_more_or_less(self):
        tie = (0, 1, "foe")
        for thing in ((), (2,), (2, (tie,), None), (2, (tie,), ()), ((tie,), 2), (2, tie), (2, ((),)), (2, ((tie,),)),
                      (2, ((0, 1),)), (2, ((0, 1, "foe", 1),)), (2, (tie, None)), (2, (None, tie)), (2, (tie, (0, 1)))):
            assert_truth(self, is_web(thing), False)

    def test_parts_of_other_kinds(self):
        for web in WEBS[:8]:
            for thing in spoiled(web):
                assert_truth(self, is_web(thing), False)

    def test_anything(self):
        for thing in plain_wrong():
            assert_truth(self, is_web(thing), False)
        assert_truth(self, is_web((2, ((0, 1, deep(27, lambda part: [part])),))), False)

    def test_nothing_is_changed(self):
        for thing in plain_wrong() + WEBS:
            assert_steady(self, is_web, thing)


class Weights(unittest.TestCase):
    web = (3, ((0, 1, "foe"), (1, 2, "friend"), (0, 1, "foe")))

    def test_weights(self):
        for thing in (None, (1, 1, 1), (1, 2, 3), (10 ** 30, 1, 10 ** 30), (SIXTY, SIXTY, SIXTY)):
            assert_truth(self, is_weights(self.web, thing), True)

    def test_no_ties(self):
        assert_truth(self, is_weights((3, ()), None), True)
        assert_truth(self, is_weights((3, ()), ()), True)
        for thing in ((1,), [], {}, "", False, 0, (None,), ((),)):
            assert_truth(self, is_weights((3, ()), thing), False)

    def test_from_one_on(self):
        for weight in (0, -1, -SIXTY):
            assert_truth(self, is_weights(self.web, (1, weight, 1)), False)

    def test_one_for_each_tie(self):
        for thing in ((), (1,), (1, 1), (1, 1, 1, 1), (1,) * 20000):
            assert_truth(self, is_weights(self.web, thing), False)

    def test_other_kinds(self):
        for thing in spoiled((1, 2, 3)):
            if thing is not None:
                assert_truth(self, is_weights(self.web, thing), False)
        for thing in plain_wrong():
            if thing is not None:
                assert_truth(self, is_weights(self.web, thing), False)

    def test_great_webs(self):
        web = great_web()
        assert_truth(self, is_weights(web, (10 ** 30,) * 120), True)
        assert_truth(self, is_weights(web, (10 ** 30,) * 119), False)
        assert_truth(self, is_weights(web, (10 ** 30,) * 119 + (True,)), False)

    def test_nothing_is_changed(self):
        for thing in plain_wrong() + [(1, 2, 3)]:
            assert_steady(self, is_weights, self.web, thing)

    def test_weight_of(self):
        weights = (5, 10 ** 30, 1)
        self.assertEqual([weight_of(weights, tie) for tie in range(3)], [5, 10 ** 30, 1])
        self.assertEqual([weight_of(None, tie) for tie in (0, 1, 2, 119)], [1, 1, 1, 1])
        self.assertIs(type(weight_of(None, 0)), int)
        assert_steady(self, weight_of, weights, 1)


if __name__ == "__main__":
    unittest.main()
