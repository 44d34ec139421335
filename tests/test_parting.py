"""Promise 5: the parts of a web."""

import unittest

from friendfoe.parting import parts_of
from samples import WEBS, assert_steady, great_web, small_webs


def parts_by_merging(web):
    """The same by another way: labels made alike tie by tie until none changes."""
    labels = list(range(web[0]))
    for turn in range(web[0]):
        for one, other, kind in web[1]:
            labels[one] = labels[other] = min(labels[one], labels[other])
    firsts = sorted(set(labels))
    return tuple(tuple(place for place in range(web[0]) if labels[place] == first) for first in firsts)


class Parts(unittest.TestCase):
    def test_ordinary(self):
        self.assertEqual(parts_of((6, ((5, 3, "foe"), (1, 4, "friend"), (3, 1, "foe"), (4, 5, "friend")))),
                         ((0,), (1, 3, 4, 5), (2,)))
        self.assertEqual(parts_of((5, ((4, 0, "friend"), (3, 1, "foe")))), ((0, 4), (1, 3), (2,)))

    def test_places_that_no_tie_reaches(self):
        self.assertEqual(parts_of((1, ())), ((0,),))
        self.assertEqual(parts_of((3, ())), ((0,), (1,), (2,)))
        self.assertEqual(parts_of((4, ((3, 2, "foe"),))), ((0,), (1,), (2, 3)))

    def test_ties_of_the_same_places(self):
        self.assertEqual(parts_of((3, ((2, 1, "foe"), (1, 2, "friend")))), ((0,), (1, 2)))

    def test_against_another_way(self):
        for web in WEBS + small_webs() + [great_web(seed, ties=30) for seed in range(20)]:
            self.assertEqual(parts_of(web), parts_by_merging(web))

    def test_forty_places_in_a_row(self):
        self.assertEqual(parts_of((40, tuple((place + 1, place, "foe") for place in range(39)))), (tuple(range(40)),))
        # one long way that goes up and down, so that the places aren't met in rising order
        way = [place * 7 % 40 for place in range(40)]
        ties = tuple((one, other, "friend") for one, other in zip(way, way[1:]))
        self.assertEqual(parts_of((40, ties)), (tuple(range(40)),))

    def test_kinds_of_values(self):
        for web in WEBS:
            parts = parts_of(web)
            self.assertIs(type(parts), tuple)
            for part in parts:
                self.assertIs(type(part), tuple)
                self.assertTrue(all(type(place) is int for place in part))

    def test_kinds_of_ties_make_no_difference(self):
        for web in small_webs(50):
            turned = (web[0], tuple((one, other, "foe") for one, other, kind in web[1]))
            self.assertEqual(parts_of(web), parts_of(turned))

    def test_nothing_is_changed(self):
        for web in WEBS:
            assert_steady(self, parts_of, web)


if __name__ == "__main__":
    unittest.main()
