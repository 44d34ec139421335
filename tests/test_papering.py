"""Promises 2, 3 and 18: papers that show the least weight."""

import unittest

from friendfoe.errors import TooMany
from friendfoe.mending import least_mend
from friendfoe.papering import paper_of
from friendfoe.turning import turned
from papers import Reader
from samples import (WEBS, assert_plain, assert_steady, beside, great_holding_web, great_web, least_slowly,
                     mixed_parts, ring_web, small_webs, some_places, some_weights)

GREAT = 10 ** 30
RING = ((0, 1, 2), (0, 1, 2))


class ReadByHand(unittest.TestCase):
    """The reader that the tests below lean on: papers of which it is known what they show, and wrong ones."""

    def shown(self, web, weights, paper):
        return Reader(self, web, weights).shown(paper)

    def wrong(self, web, weights, paper):
        with self.assertRaises(AssertionError):
            Reader(unittest.TestCase(), web, weights).shown(paper)

    def test_rings(self):
        odd = ring_web(3, 1)
        for times, number in ((1, 1), (2, 1)):
            self.assertEqual(self.shown(odd, None, ("rings", ((RING, times),))), number)
        for times, number in ((1, 1), (2, 1), (3, 2), (4, 2), (5, 3), (6, 3)):
            self.assertEqual(self.shown(odd, (3, 9, 4), ("rings", ((RING, times),))), number)
        self.assertEqual(self.shown(odd, None, ("rings", ())), 0)
        self.wrong(odd, None, ("rings", ((RING, 3),)))
        self.wrong(odd, None, ("rings", ((RING, 2), (RING, 1))))
        self.wrong(odd, None, ("rings", ((RING, 0),)))
        self.wrong(ring_web(3, 2), None, ("rings", ((RING, 1),)))

    def test_split(self):
        web = beside(ring_web(3, 1), ring_web(2, 1))
        one, two = ("rings", ((RING, 2),)), ("rings", ((((3, 4), (3, 4)), 2),))
        self.assertEqual(self.shown(web, None, ("split", (((0, 1, 2), one), ((3, 4), two)))), 2)
        self.assertEqual(self.shown(web, None, ("split", ())), 0)
        self.wrong(web, None, ("split", (((0, 1), one), ((2, 3, 4), two))))
        self.wrong(web, None, ("split", (((0, 1, 2), one), ((0, 3, 4), two))))
        self.wrong(web, None, ("split", (((0, 2, 1), one),)))

    def test_case(self):
        web = (2, ((0, 1, "friend"), (0, 1, "foe")))
        for_friends, for_foes = ("rings", ((((0, 1), (2, 1)), 2),)), ("rings", ((((0, 1), (2, 0)), 10),))
        self.assertEqual(self.shown(web, (5, 1), ("case", 0, 1, for_friends, for_foes)), 1)
        self.wrong(web, (5, 1), ("case", 0, 1, for_foes, for_friends))
        self.wrong(web, (5, 1), ("case", 0, 0, for_friends, for_foes))
        self.wrong(web, (4, 1), ("case", 0, 1, for_friends, for_foes))


class Papers(unittest.TestCase):
    def shows(self, web, weights, expected):
        """The paper shows the number; it is of tuples, whole numbers and the three words alone."""
        paper = paper_of(web, weights)
        assert_plain(self, paper)
        self.assertEqual(Reader(self, web, weights).shown(paper), expected)
        return paper

    def test_ordinary(self):
        web = (5, ((0, 1, "foe"), (1, 2, "foe"), (2, 0, "foe"), (3, 4, "foe"), (4, 3, "friend")))
        self.shows(web, None, 2)
        self.shows(web, (3, 2, 9, 5, 8), 7)

    def test_no_odd_ring(self):
        for web in ((1, ()), (40, ()), ring_web(4, 2), ring_web(40, 40), great_holding_web()[0]):
            self.shows(web, None, 0)
            self.shows(web, (GREAT,) * len(web[1]), 0)

    def test_weights_none_and_left_out(self):
        for web in WEBS[:8] + small_webs(30):
            self.assertEqual(paper_of(web), paper_of(web, None))
            self.assertEqual(Reader(self, web, None).shown(paper_of(web)), least_mend(web)[0])

    def test_rings_of_two_to_eight_places(self):
        for many in range(2, 9):
            for foes in (1, many - 1 + many % 2):
                web = ring_web(many, foes)
                self.shows(web, None, 1)
                self.shows(web, tuple(range(7, 7 + many)), 7)
                self.shows(web, (GREAT,) * many, GREAT)

    def test_ties_of_the_same_places(self):
        web = (3, ((2, 1, "foe"), (1, 2, "friend"), (2, 1, "foe"), (2, 1, "friend"), (1, 2, "foe")))
        self.shows(web, None, 2)
        self.shows(web, (1, 9, 1, 9, 1), 3)

    def test_the_least_of_all_sides_of_small_webs(self):
        for seed, web in enumerate(WEBS[:8] + small_webs(200)):
            for weights in (None, some_weights(web, seed), some_weights(web, seed + 1, GREAT)):
                self.shows(web, weights, least_slowly(web, weights))

    def test_eight_places(self):
        for seed in range(12):
            web = great_web(seed, many=8, ties=10 + 10 * seed)
            for weights in (None, some_weights(web, seed), some_weights(web, seed, GREAT)):
                self.shows(web, weights, least_slowly(web, weights))

    def test_parts_amid_one_another(self):
        for seed in range(20):
            web = mixed_parts(ring_web(3, 1), ring_web(2, 1), ring_web(4, 2), (1, ()), ring_web(5, 5), seed=seed)
            weights = some_weights(web, seed)
            self.shows(web, None, 3)
            self.shows(web, weights, least_mend(web, weights)[0])

    def test_great_parts_and_many_parts(self):
        great = great_holding_web(3, many=24, ties=70)[0]
        webs = [great_web(seed, many=8, ties=24) for seed in range(5)]
        for web in (mixed_parts(great, webs[0], webs[1]), mixed_parts(*webs), beside(*webs * 6)):
            for weights in (None, some_weights(web, 1, GREAT)):
                self.shows(web, weights, least_mend(web, weights)[0])

    def test_turned(self):
        for seed in range(10):
            web = great_web(seed, many=7, ties=20)
            self.shows(turned(web, some_places(web, seed)), None, least_mend(web)[0])

    def test_at_most_thirty_deep(self):
        def depth(thing):
            return 1 + max(map(depth, thing), default=0) if isinstance(thing, tuple) else 0
        web = mixed_parts(*[great_web(seed, many=8, ties=40) for seed in range(3)])
        self.assertLessEqual(depth(paper_of(web)), 30)

    def test_too_many(self):
        for web in (ring_web(9, 1), great_web(), beside(ring_web(3, 1), ring_web(9, 3)), mixed_parts(
                great_web(1, many=9, ties=30), ring_web(20, 2))):
            for handed in ((web,), (web, None), (web, (GREAT,) * len(web[1]))):
                with self.assertRaises(TooMany) as told:
                    paper_of(*handed)
                self.assertIs(type(told.exception), TooMany)
        self.shows(ring_web(9, 2), None, 0)

    def test_nothing_is_changed(self):
        for web in WEBS[:8] + [great_web(1, many=8, ties=40)]:
            assert_steady(self, paper_of, web)
            assert_steady(self, paper_of, web, (GREAT,) * len(web[1]))


if __name__ == "__main__":
    unittest.main()
