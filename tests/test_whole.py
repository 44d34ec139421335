"""Promise 3: the whole, over all modules; each paper told is read by its small checker."""

import unittest

from friendfoe.checking import shown_by
from friendfoe.desk import Desk
from friendfoe.flatchecks import flat_paper_holds
from friendfoe.flatting import flat_mend, flat_paper
from friendfoe.framing import told_turning, turning_holds
from friendfoe.layering import layers_hold
from friendfoe.mending import least_mend, mend_holds, mend_weight
from friendfoe.moving import broken_weight, is_settled, settled
from friendfoe.papering import paper_of
from friendfoe.ringing import foes_in, odd_ring_holds, ring_holds
from friendfoe.several import least_several, several, several_hold
from friendfoe.severalchecks import none_holds
from friendfoe.shortest import shortest_odd
from friendfoe.siding import sides_hold, sides_of
from friendfoe.standing import Stand
from friendfoe.texting import read_web, show_web
from friendfoe.turning import turned
from samples import (WEBS, flat_web, great_web, renumbered, renumbered_orders, renumbered_weights, small_webs,
                     some_places, some_weights)

GREAT = 10 ** 30


class Whole(unittest.TestCase):
    def told(self, web, weights):
        """What is told of a web, each answer read by its checker: what no other numbering changes."""
        return (self.sides_or_ring(web), self.least_weight(web, weights), self.least_number(web),
                self.desk(web, weights))

    def sides_or_ring(self, web):
        sides, odd = sides_of(web), shortest_odd(web)
        self.assertEqual(sides is None, odd is not None)
        if odd is None:
            self.assertTrue(sides_hold(web, sides))
            return None
        ring, layers = odd
        self.assertTrue(odd_ring_holds(web, ring))
        self.assertTrue(layers_hold(web, len(ring[1]), layers))
        return len(ring[1])

    def least_weight(self, web, weights):
        weight, ties = least_mend(web, weights)
        self.assertTrue(mend_holds(web, ties))
        self.assertEqual(mend_weight(weights, ties), weight)
        self.assertEqual(shown_by(web, weights, paper_of(web, weights)), weight)
        return weight

    def least_number(self, web):
        word, *rest = least_several(web)
        if word == "ring":
            self.assertTrue(ring_holds(web, rest[0]))
            self.assertEqual(foes_in(web, rest[0]), 1)
            self.assertEqual([several(web, k)[0] for k in (1, 2, 20)], ["ring"] * 3)
            return None
        k, sides, paper = rest
        self.assertTrue(several_hold(web, k, sides))
        self.assertEqual(several(web, k)[0], "sides")
        if k > 1:
            self.assertTrue(none_holds(web, k - 1, paper))
            self.assertEqual(several(web, k - 1)[0], "none")
        return k

    def desk(self, web, weights):
        """The desk answers what the functions tell of its web, weights and stand."""
        desk, stand = Desk(web[0]), Stand(web[0])
        for number, tie in enumerate(web[1]):
            weight = 1 if weights is None else weights[number]
            answer = desk.say(" ".join(map(str, ("tie", *tie, weight))))
            self.assertEqual(answer, "kept" if stand.come(*tie) is None else "breaks")
        self.assertEqual(desk.now(), (web, weights or (1,) * len(web[1])))
        self.assertEqual(read_web(desk.say("web")), read_web(show_web(*desk.now())))
        end, places = settled(web, weights, stand.sides())
        self.assertTrue(is_settled(web, weights, end))
        self.assertEqual(desk.say("settle"), str(broken_weight(web, weights, end)))
        self.assertEqual(desk.say("broken"), " ".join(map(str, stand.broken())) or "none")
        return [desk.say(row) for row in ("ring", "mend", "several")]

    def test_numbered_otherwise(self):
        webs = WEBS[:8] + small_webs(60) + [great_web(seed, many=8, ties=25) for seed in range(8)]
        for seed, web in enumerate(webs):
            other, places, numbers = renumbered(web, seed)
            for weights in (None, some_weights(web, seed), some_weights(web, seed, GREAT)):
                moved = None if weights is None else renumbered_weights(weights, numbers)
                self.assertEqual(self.told(web, weights), self.told(other, moved))

    def test_turned_about(self):
        for seed, web in enumerate(WEBS[:8] + small_webs(60)):
            other = turned(web, some_places(web, seed))
            weights = some_weights(web, seed)
            self.assertEqual(self.sides_or_ring(web), self.sides_or_ring(other))
            self.assertEqual(self.least_weight(web, weights), self.least_weight(other, weights))
            self.assertEqual(told_turning(web, other)[0], "turned")
            self.assertTrue(turning_holds(web, other, told_turning(web, other)))

    def test_flat_webs(self):
        for seed in range(40):
            web, orders = flat_web(seed, 7, 13)
            weights = some_weights(web, seed, GREAT)
            weight = self.least_weight(web, weights)
            self.assertEqual(flat_mend(web, orders, weights)[0], weight)
            self.assertTrue(flat_paper_holds(web, orders, weights, weight, flat_paper(web, orders, weights)))
            other, places, numbers = renumbered(turned(web, some_places(web, seed)), seed)
            moved = renumbered_orders(orders, places, numbers), renumbered_weights(weights, numbers)
            self.assertEqual(flat_mend(other, *moved)[0], weight)


if __name__ == "__main__":
    unittest.main()
