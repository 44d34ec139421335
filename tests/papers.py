"""Papers read knot by knot, word by word as promise 18 tells them."""

import unittest

from friendfoe.ringing import odd_ring_holds
from friendfoe.webs import weight_of
from samples import assert_truth


class Reader:
    """Reads papers of one web; a test case is told where one isn't as it should be."""

    def __init__(self, case, web, weights):
        self.case, self.web, self.weights = case, web, weights

    def shown(self, paper):
        return self.knot(paper, tuple(range(len(self.web[1]))), ())

    def knot(self, paper, given, sure):
        self.case.assertIs(type(paper), tuple)
        word, *parts = paper
        return {"rings": self.rings, "split": self.split, "case": self.cases}[word](given, sure, *parts)

    def rings(self, given, sure, rows):
        behind = len(self.web[1])
        web = (self.web[0], self.web[1] + sure)
        fit = set(given) | set(range(behind, behind + len(sure)))
        self.case.assertIs(type(rows), tuple)
        standing = {}
        for row in rows:
            self.case.assertIs(type(row), tuple)
            ring, times = row
            assert_truth(self.case, odd_ring_holds(web, ring), True)
            self.case.assertLessEqual(set(ring[1]), fit)
            self.case.assertIs(type(times), int)
            self.case.assertGreaterEqual(times, 1)
            for tie in ring[1]:
                standing[tie] = standing.get(tie, 0) + times
        for tie, times in standing.items():
            if tie < behind:
                self.case.assertLessEqual(times, 2 * weight_of(self.weights, tie))
        return (sum(times for ring, times in rows) + 1) // 2

    def split(self, given, sure, rows):
        self.case.assertIs(type(rows), tuple)
        seen = set()
        total = 0
        for row in rows:
            self.case.assertIs(type(row), tuple)
            ties, paper = row
            self.case.assertIs(type(ties), tuple)
            self.case.assertTrue(all(type(tie) is int for tie in ties))
            self.case.assertEqual(ties, tuple(sorted(set(ties))))
            self.case.assertLessEqual(set(ties), set(given))
            self.case.assertFalse(seen & set(ties))
            seen |= set(ties)
            total += self.knot(paper, ties, sure)
        return total

    def cases(self, given, sure, one, other, first, second):
        for place in (one, other):
            self.case.assertIs(type(place), int)
            self.case.assertIn(place, range(self.web[0]))
        self.case.assertNotEqual(one, other)
        return min(self.knot(first, given, sure + ((one, other, "friend"),)),
                   self.knot(second, given, sure + ((one, other, "foe"),)))


def shown_slowly(web, weights, thing):
    """What the reader finds shown, or None where it finds no paper."""
    try:
        return Reader(unittest.TestCase(), web, weights).shown(thing)
    except (AssertionError, TypeError, ValueError, KeyError):
        return None
