"""Promise 10: layers."""

import unittest

from friendfoe.layering import layers_hold
from friendfoe.ringing import odd_ring_holds
from samples import (SIXTY, WEBS, all_rings, assert_steady, assert_truth, great_holding_web, great_web, plain_wrong,
                     small_webs, spoiled)

ODD = (3, ((0, 1, "foe"), (1, 2, "foe"), (2, 0, "foe")))
ODD_LAYERS = ((0, 3, 2, 1, 2, 1), (2, 1, 0, 3, 2, 1), (2, 1, 2, 1, 0, 3))


def steps_from(web, start, far):
    """How many steps it is from start, even, to each place, even and odd; far where none lead there."""
    row = [far] * (2 * web[0])
    row[2 * start] = 0
    for turn in range(2 * web[0]):
        for one, other, kind in web[1]:
            for odd in (0, 1):
                near, there = 2 * one + odd, 2 * other + (odd if kind == "friend" else 1 - odd)
                row[near] = min(row[near], row[there] + 1)
                row[there] = min(row[there], row[near] + 1)
    return tuple(row)


def true_layers(web, far=10 ** 40):
    return tuple(steps_from(web, start, far) for start in range(web[0]))


def hold_slowly(web, number, layers):
    """The same by another way: word by word, each tie either way about."""
    for start, row in enumerate(layers):
        even, odd = row[::2], row[1::2]
        if even[start] != 0 or odd[start] < number:
            return False
        for one, other, kind in web[1]:
            for a, b in ((one, other), (other, one)):
                by_even, by_odd = (even, odd) if kind == "friend" else (odd, even)
                if not (by_even[b] - 1 <= even[a] <= by_even[b] + 1 and by_odd[b] - 1 <= odd[a] <= by_odd[b] + 1):
                    return False
    return True


def least_odd(web):
    return min((len(ring[0]) for ring in all_rings(web) if odd_ring_holds(web, ring)), default=None)


class Layers(unittest.TestCase):
    def test_ordinary(self):
        for number in (0, 1, 2, 3):
            assert_truth(self, layers_hold(ODD, number, ODD_LAYERS), True)
        for number in (4, 5, 10 ** 40):
            assert_truth(self, layers_hold(ODD, number, ODD_LAYERS), False)

    def test_two_places(self):
        web = (2, ((0, 1, "friend"), (1, 0, "foe")))
        layers = ((0, 2, 1, 1), (1, 1, 0, 2))
        assert_truth(self, layers_hold(web, 2, layers), True)
        assert_truth(self, layers_hold(web, 3, layers), False)
        assert_truth(self, layers_hold(web, 3, ((0, 3, 1, 2), (2, 1, 0, 3))), False)
        assert_truth(self, layers_hold(web, 1, ((0, 1, 0, 1), (0, 1, 0, 1))), True)

    def test_the_number_0(self):
        for web in WEBS:
            nothing = ((0,) * (2 * web[0]),) * web[0]
            assert_truth(self, layers_hold(web, 0, nothing), True)
            assert_truth(self, layers_hold(web, 1, nothing), False)

    def test_great_numbers_where_no_tie_leads(self):
        assert_truth(self, layers_hold((1, ()), 10 ** 40, ((0, 10 ** 40),)), True)
        assert_truth(self, layers_hold((1, ()), 10 ** 40, ((0, 10 ** 40 - 1),)), False)
        assert_truth(self, layers_hold((2, ()), SIXTY, ((0, SIXTY, 5, SIXTY), (SIXTY, 0, 0, SIXTY))), True)
        holding = (4, ((0, 1, "foe"), (2, 1, "foe")))
        assert_truth(self, layers_hold(holding, 10 ** 40, true_layers(holding)), True)
        apart = (5, tuple((one + 2, other + 2, kind) for one, other, kind in ODD[1]))
        assert_truth(self, layers_hold(apart, 3, true_layers(apart, SIXTY)), True)
        assert_truth(self, layers_hold(apart, 4, true_layers(apart, SIXTY)), False)

    def test_even_number_of_its_own_place_is_0(self):
        assert_truth(self, layers_hold((1, ()), 0, ((1, 5),)), False)
        assert_truth(self, layers_hold(ODD, 0, tuple(tuple(part + 1 for part in row) for row in ODD_LAYERS)), False)
        assert_truth(self, layers_hold((2, ()), 0, ((0, 0, 0, 0), (0, 0, 1, 0))), False)

    def test_each_number_changed(self):
        for web in [ODD] + small_webs(25, places=4, ties=5):
            layers = true_layers(web, 9)
            for start, row in enumerate(layers):
                for at, part in enumerate(row):
                    for other in (part - 2, part - 1, part + 1, part + 2, SIXTY, 0):
                        thing = layers[:start] + (row[:at] + (other,) + row[at + 1:],) + layers[start + 1:]
                        for number in (0, 2, 3):
                            expected = other >= 0 and hold_slowly(web, number, thing)
                            assert_truth(self, layers_hold(web, number, thing), expected)

    def test_none_hold_for_more_than_an_odd_ring_has(self):
        for web in WEBS[:8] + small_webs(100, places=5, ties=7):
            least = least_odd(web)
            layers = true_layers(web)
            if least is None:
                assert_truth(self, layers_hold(web, 10 ** 40, layers), True)
            else:
                assert_truth(self, layers_hold(web, least, layers), True)
                assert_truth(self, layers_hold(web, least + 1, layers), False)

    def test_ties_either_way_about(self):
        for web in small_webs(60, places=5, ties=6):
            about = (web[0], tuple((other, one, kind) for one, other, kind in web[1]))
            layers = true_layers(web)
            for number in (0, 1, 2, 3, 4, 10 ** 40):
                self.assertIs(layers_hold(web, number, layers), layers_hold(about, number, layers))

    def test_great_webs(self):
        holding, sides = great_holding_web()
        assert_truth(self, layers_hold(holding, 10 ** 40, true_layers(holding)), True)
        web = great_web()
        layers = true_layers(web)
        shortest = min(row[2 * start + 1] for start, row in enumerate(layers))
        assert_truth(self, layers_hold(web, shortest, layers), True)
        assert_truth(self, layers_hold(web, shortest + 1, layers), False)
        last = layers[39][:79] + (layers[39][79] + 3,)
        assert_truth(self, layers_hold(web, shortest, layers[:39] + (last,)), False)

    def test_a_part_more_or_less(self):
        rows = ODD_LAYERS
        for thing in ((), rows[:2], rows + rows[:1], rows[1:] + rows[:1], (rows,), rows[0], rows[:2] + ((),),
                      rows[:2] + (rows[2][:5],), rows[:2] + (rows[2] + (3,),), ((),) + rows[1:], (None,) + rows[1:],
                      tuple(tuple(zip(row[::2], row[1::2])) for row in rows)):
            assert_truth(self, layers_hold(ODD, 0, thing), False)

    def test_anything(self):
        for web in (ODD, (1, ()), (2, ()), (10 ** 31, ()), great_web()):
            for thing in plain_wrong():
                assert_truth(self, layers_hold(web, 0, thing), False)
        for thing in spoiled(ODD_LAYERS):
            assert_truth(self, layers_hold(ODD, 0, thing), False)
        for thing in spoiled(((0, 7),)):
            assert_truth(self, layers_hold((1, ()), 0, thing), False)

    def test_truths_are_no_numbers(self):
        assert_truth(self, layers_hold((1, ()), 0, ((False, 1),)), False)
        assert_truth(self, layers_hold((1, ()), 0, ((0, True),)), False)
        assert_truth(self, layers_hold((1, ()), 1, ((0, True),)), False)

    def test_nothing_is_changed(self):
        for thing in plain_wrong() + [ODD_LAYERS]:
            assert_steady(self, layers_hold, ODD, 3, thing)


if __name__ == "__main__":
    unittest.main()
