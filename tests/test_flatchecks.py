"""Promises 2, 3 and 22: the small checker of flat papers."""

import itertools
import random
import unittest

from friendfoe.errors import NotFlat, WebError
from friendfoe.facing import faces_of, odd_faces
from friendfoe.flatchecks import flat_paper_holds
from friendfoe.flatting import flat_mend, flat_paper
from friendfoe.mending import least_mend
from samples import (BAD, EVEN_PAIR, FLAT, ODD_PAIR, SIXTY, WHEEL, assert_steady, assert_truth, changed, fan,
                     flat_beside, flat_web, plain_wrong, ring_web, some_weights, spoiled)

GREAT = 10 ** 30
# Faces 0 and 3 are odd, and tie 2 stands between them; faces 1 and 2 stand beside both, and beside one another.
LAYERS = ((0, 1, 1, 1), (1, 1, 1, 0))
PAPER = (LAYERS, (((0, 3), 1),))


def holds_slowly(web, orders, weights, number, thing):
    """The same by another way: word by word."""
    def whole(part):
        return type(part) is int and part >= 0
    faces, odd = faces_of(web, orders), odd_faces(web, orders)
    if len(odd) > 8 or type(thing) is not tuple or len(thing) != 2:
        return False
    layers, table = thing
    if type(layers) is not tuple or len(layers) != len(odd) or type(table) is not tuple:
        return False
    for face, layer in zip(odd, layers):
        if type(layer) is not tuple or len(layer) != len(faces) or not all(map(whole, layer)) or layer[face] != 0:
            return False
        for tie, (one, other, kind) in enumerate(web[1]):
            by_one = [at for at, steps in enumerate(faces) if (tie, one) in steps]
            by_other = [at for at, steps in enumerate(faces) if (tie, other) in steps]
            if abs(layer[by_one[0]] - layer[by_other[0]]) > (1 if weights is None else weights[tie]):
                return False
    choices = sorted(choice for many in (2, 4, 6, 8) for choice in itertools.combinations(odd, many))
    numbers = {(): 0}
    for row in table:
        if type(row) is not tuple or len(row) != 2 or type(row[0]) is not tuple or not all(map(whole, row[0])):
            return False
        if not whole(row[1]):
            return False
        numbers[row[0]] = row[1]
    if [row[0] for row in table] != choices:
        return False
    for choice in choices:
        for other in choice[1:]:
            rest = tuple(sorted(set(choice) - {choice[0], other}))
            if numbers[choice] > layers[odd.index(choice[0])][other] + numbers[rest]:
                return False
    return number <= numbers[odd]


class Checks(unittest.TestCase):
    def yes(self, web, orders, weights, number, thing):
        assert_truth(self, flat_paper_holds(web, orders, weights, number, thing), True)

    def no(self, web, orders, weights, number, *things):
        for thing in things:
            assert_truth(self, flat_paper_holds(web, orders, weights, number, thing), False)


class Numbers(Checks):
    def test_ordinary(self):
        self.assertEqual(odd_faces(WHEEL, FLAT), (0, 3))
        self.yes(WHEEL, FLAT, None, 1, PAPER)
        self.yes(WHEEL, FLAT, None, 0, PAPER)
        self.no(WHEEL, FLAT, None, 2, PAPER)
        self.no(WHEEL, FLAT, None, 10 ** 40, PAPER)

    def test_the_number_of_all_odd_faces_one_less_and_one_more(self):
        for seed in range(30):
            web, orders = flat_web(seed, 6, 11)
            for weights in (None, some_weights(web, seed, GREAT)):
                least = flat_mend(web, orders, weights)[0]
                paper = flat_paper(web, orders, weights)
                self.yes(web, orders, weights, least, paper)
                self.yes(web, orders, weights, 0, paper)
                self.yes(web, orders, weights, max(0, least - 1), paper)
                self.no(web, orders, weights, least + 1, paper)
                self.no(web, orders, weights, 10 ** 40, paper)

    def test_no_odd_face(self):
        for web, orders in (((1, ()), ((),)), EVEN_PAIR, flat_web(1, 40, 110, flips=0)):
            self.yes(web, orders, None, 0, ((), ()))
            self.no(web, orders, None, 1, ((), ()))
            self.no(web, orders, None, 0, (), ((),), ((), (), ()), ([], ()), ((), []), [(), ()], (None, ()), ((), None),
                    (((),), ()), ((), ((),)), ((), (((), 0),)), ({}, ()), ((), {}), "", None, ("", ""))

    def test_more_than_eight_odd_faces(self):
        for many in (10, 12):
            web, orders = fan(many)
            layers = tuple(tuple(min((at - face) % many, (face - at) % many) for at in range(many))
                           for face in range(many))
            choices = sorted(choice for size in range(2, many + 1, 2)
                             for choice in itertools.combinations(range(many), size))
            table = tuple((choice, 0) for choice in choices)
            self.no(web, orders, None, 0, (layers, table), ((), ()), (layers, ()), ((), table),
                    (layers, tuple(row for row in table if len(row[0]) <= 8)))
        web, orders = fan(120)
        self.no(web, orders, None, 0, ((), ()), *plain_wrong())


class Layers(Checks):
    def test_lesser_ones(self):
        for layers, shown in ((((0, 0, 0, 0), (0, 0, 0, 0)), 0), (((0, 1, 1, 1), (0, 0, 0, 0)), 1),
                              (((0, 0, 0, 1), (9, 9, 9, 0)), None), (((0, 0, 0, 0), (1, 1, 1, 0)), 0),
                              (((0, 0, 1, 1), (1, 0, 1, 0)), 1)):
            for told in range(3):
                expected = shown is not None and told <= shown
                assert_truth(self, flat_paper_holds(WHEEL, FLAT, None, told, (layers, (((0, 3), told),))), expected)

    def test_nought_at_its_own_face(self):
        for layers in (((1, 1, 1, 1), LAYERS[1]), (LAYERS[0], (1, 1, 1, 1)), ((1, 2, 2, 2), LAYERS[1]), LAYERS[::-1]):
            self.no(WHEEL, FLAT, None, 0, (layers, (((0, 3), 1),)), (layers, (((0, 3), 0),)))

    def test_each_tie_by_its_weight(self):
        # Each tie of weight 1 in turn keeps its two faces near, the others leave them far apart.
        pairs = ((0, 1), (0, 2), (0, 3), (1, 3), (1, 2), (2, 3))
        for tie, (one, other) in enumerate(pairs):
            weights = tuple(3 if number == tie else 50 for number in range(6))
            for apart, expected in ((3, True), (4, False)):
                for sign in (-1, 1):
                    layer = [20] * 4
                    layer[one], layer[other] = 20, 20 + sign * apart
                    layer[0] = 0
                    if 0 in (one, other):
                        layer[other if one == 0 else one] = apart
                    told = (tuple(layer), (0, 0, 0, 0))
                    assert_truth(self, flat_paper_holds(WHEEL, FLAT, weights, 0, (told, (((0, 3), 0),))), expected)

    def test_great_weights(self):
        weights = (GREAT,) * 6
        paper = (((0, GREAT, GREAT, GREAT), (GREAT, GREAT, GREAT, 0)), (((0, 3), GREAT),))
        self.yes(WHEEL, FLAT, weights, GREAT, paper)
        self.no(WHEEL, FLAT, weights, GREAT + 1, paper)
        self.no(WHEEL, FLAT, weights, 0, (((0, GREAT, GREAT, GREAT + 1), paper[0][1]), paper[1]))
        self.no(WHEEL, FLAT, None, 0, paper)

    def test_a_tie_with_one_face_on_both_sides(self):
        web = (3, ring_web(2, 1)[1] + ((1, 2, "foe"),))
        self.yes(web, ((0, 1), (0, 1, 2), (2,)), (9, 5, 1), 5, (((0, 5), (5, 0)), (((0, 1), 5),)))
        self.no(web, ((0, 1), (0, 1, 2), (2,)), (9, 5, 1), 5, (((0, 6), (6, 0)), (((0, 1), 5),)))

    def test_any_numbers_across_parts(self):
        web, orders = flat_beside(ODD_PAIR, EVEN_PAIR, ODD_PAIR)
        self.assertEqual(odd_faces(web, orders), (0, 1, 4, 5))
        table = (((0, 1), 1), ((0, 1, 4, 5), 2), ((0, 4), 7), ((0, 5), 8), ((1, 4), 0), ((1, 5), 9), ((4, 5), 1))
        layers = ((0, 1, 5, 6, 7, 8), (1, 0, 0, 0, 8, 9), (0, 0, SIXTY, SIXTY, 0, 1), (SIXTY, SIXTY, 0, 1, 1, 0))
        self.yes(web, orders, None, 2, (layers, table))
        self.no(web, orders, None, 3, (layers, table))
        # Within a part, be it one without odd faces, they are near all the same.
        for layer in ((0, 1, 5, 7, 7, 8), (0, 1, 5, 6, 7, 9), (0, 2, 5, 6, 7, 8)):
            self.no(web, orders, None, 0, ((layer, *layers[1:]), table))
        # With small numbers across parts less is shown, and no more may be said.
        small = ((0, 1, 0, 0, 0, 0), *layers[1:])
        lesser = (((0, 1), 1), ((0, 1, 4, 5), 0), ((0, 4), 0), ((0, 5), 0), ((1, 4), 0), ((1, 5), 0), ((4, 5), 1))
        self.yes(web, orders, None, 0, (small, lesser))
        self.no(web, orders, None, 0, (small, table))

    def test_all_layers_of_a_small_web(self):
        web, orders = ODD_PAIR
        for numbers in itertools.product(range(-1, 4), repeat=5):
            one, other, third, fourth, told = numbers
            thing = (((one, other), (third, fourth)), (((0, 1), told),))
            for number in range(4):
                assert_truth(self, flat_paper_holds(web, orders, (3, 2), number, thing), holds_slowly(
                    web, orders, (3, 2), number, thing))


class Tables(Checks):
    FOUR = fan(4)
    FOUR_LAYERS = ((0, 1, 2, 1), (1, 0, 1, 2), (2, 1, 0, 1), (1, 2, 1, 0))
    FOUR_TABLE = (((0, 1), 1), ((0, 1, 2, 3), 2), ((0, 2), 2), ((0, 3), 1), ((1, 2), 1), ((1, 3), 2), ((2, 3), 1))

    def test_the_faces_of_the_fan(self):
        web, orders = self.FOUR
        self.assertEqual(odd_faces(web, orders), (0, 1, 2, 3))
        beside = {}
        for number, face in enumerate(faces_of(web, orders)):
            for tie, place in face:
                beside.setdefault(tie, []).append(number)
        self.assertEqual(sorted(map(sorted, beside.values())), [[0, 1], [0, 3], [1, 2], [2, 3]])

    def paper(self, **rows):
        """The paper by true ways, with other numbers for some choices."""
        return (self.FOUR_LAYERS, tuple((choice, rows.get("of" + "".join(map(str, choice)), number))
                                        for choice, number in self.FOUR_TABLE))

    def test_lesser_numbers(self):
        web, orders = self.FOUR
        self.yes(web, orders, None, 2, self.paper())
        self.no(web, orders, None, 3, self.paper())
        self.yes(web, orders, None, 1, self.paper(of0123=1))
        self.no(web, orders, None, 2, self.paper(of0123=1))
        self.yes(web, orders, None, 0, self.paper(of0123=0))
        self.yes(web, orders, None, 0, self.paper(of0123=0, of01=0, of02=0, of03=0, of12=0, of13=0, of23=0))
        self.yes(web, orders, None, 2, self.paper(of01=0, of02=0, of03=0, of13=0))
        # Where less is said of two faces, less can be said of all.
        self.no(web, orders, None, 0, self.paper(of23=0), self.paper(of12=0))
        self.yes(web, orders, None, 1, self.paper(of23=0, of0123=1))

    def test_too_great_numbers(self):
        web, orders = self.FOUR
        for name, number in dict(of01=2, of02=3, of03=2, of12=2, of13=3, of23=2, of0123=3).items():
            self.no(web, orders, None, 0, self.paper(**{name: number}), self.paper(**{name: SIXTY}))

    def test_the_first_face_is_paired_with_each_other_one(self):
        # Across the two parts any numbers do, so that each of the three ways to pair may be the one that is least.
        web, orders = flat_beside(ODD_PAIR, ODD_PAIR)
        weights = (5, 6, 7, 8)
        for first, of12, of13, most in (((0, 5, 20, 20), 20, 20, 12), ((0, 5, 1, 8), 20, 2, 3),
                                        ((0, 5, 8, 1), 2, 20, 3)):
            layers = (first, (5, 0, 20, 20), (0, 0, 0, 7), (0, 0, 7, 0))
            for number in (0, most - 1, most, most + 1):
                table = (((0, 1), 5), ((0, 1, 2, 3), number), ((0, 2), 0), ((0, 3), 0), ((1, 2), of12), ((1, 3), of13),
                         ((2, 3), 7))
                assert_truth(self, flat_paper_holds(web, orders, weights, number, (layers, table)), number <= most)

    def test_rows_in_order(self):
        web, orders = self.FOUR
        layers, table = self.paper()
        self.yes(web, orders, None, 2, (layers, table))
        for one, other in itertools.combinations(range(7), 2):
            rows = list(table)
            rows[one], rows[other] = rows[other], rows[one]
            self.no(web, orders, None, 0, (layers, tuple(rows)))
        self.no(web, orders, None, 0, (layers, tuple(sorted(table, key=lambda row: (len(row[0]), row[0])))),
                (layers, table[::-1]), (layers, table[1:]), (layers, table[:-1]), (layers, table[:3] + table[4:]),
                (layers, table + table[-1:]), (layers, table[:1] + table), (layers, (((), 0),) + table), (layers, ()),
                (layers, table + (((0,), 0),)), (layers, table + (((2, 4), 0),)))

    def test_choices_of_other_kinds(self):
        web, orders = self.FOUR
        layers, table = self.paper()
        for choice in ((1, 0), (False, True), (False, 1), (0, True), [0, 1], (0, 1, 1), (0,), (), 0, None, "01", (0, 2),
                       (0, "1"), {0: 1}, ((0, 1),), (0, -3), (0, 1, None)):
            self.no(web, orders, None, 0, (layers, ((choice, 0), *table[1:])))
        for number in (True, False, -1, -SIXTY, None, "1", (1,), [1], {}):
            self.no(web, orders, None, 0, (layers, (((0, 1), number), *table[1:])))
        for row in (None, (), ((0, 1),), ((0, 1), 1, 1), [(0, 1), 1], (1, (0, 1)), {(0, 1): 1}, 0, "", (0, 1, 1)):
            self.no(web, orders, None, 0, (layers, (row, *table[1:])))

    def test_numbers_of_faces_not_of_odd_ones(self):
        # The odd faces have the numbers 0 and 3, not 0 and 1.
        self.no(WHEEL, FLAT, None, 0, (LAYERS, (((0, 1), 1),)), (LAYERS, (((0, 1), 0),)), (LAYERS, (((1, 3), 0),)))

    def test_eight_odd_faces(self):
        web, orders = fan(8)
        layers, table = flat_paper(web, orders)
        self.assertEqual(len(table), 127)
        self.yes(web, orders, None, 4, (layers, table))
        self.no(web, orders, None, 5, (layers, table))
        at = [choice for choice, number in table].index(tuple(range(8)))
        self.no(web, orders, None, 0, (layers, table[:at] + table[at + 1:]),
                (layers, table[:at] + ((tuple(range(8)), 5),) + table[at + 1:]))


class Whole(Checks):
    def test_not_flat_whatever_the_thing(self):
        for web, orders in ((WHEEL, BAD), flat_beside((WHEEL, FLAT), (WHEEL, BAD)), flat_beside((WHEEL, BAD), fan(10)),
                            flat_beside(fan(10), (WHEEL, BAD))):
            for thing in plain_wrong() + [PAPER, ((), ())]:
                for number in (0, 1, 10 ** 40):
                    with self.assertRaises(NotFlat) as told:
                        flat_paper_holds(web, orders, None, number, thing)
                    self.assertIs(type(told.exception), NotFlat)
                    self.assertIsInstance(told.exception, WebError)

    def test_as_another_way_tells_of_changed_ones(self):
        chance = random.Random(8)
        found = 0
        for seed in range(40):
            web, orders = flat_web(seed, 5, 8, flips=3)
            if seed % 3 == 0:
                web, orders = flat_beside((web, orders), ODD_PAIR)
            weights = some_weights(web, seed, 3)
            least = least_mend(web, weights)[0]
            paper = flat_paper(web, orders, weights)
            if len(odd_faces(web, orders)) > 4:
                continue
            parts = [None, True, False, (), [], {}, 0, 1, 2, 3, -1, SIXTY, "", paper, paper[0], paper[1], ((0, 1), 0)]
            for turn in range(120):
                thing = changed(paper, chance, parts)
                if chance.random() < 0.3:
                    thing = changed(thing, chance, parts)
                for number in (0, max(0, least - 1), least, least + 1):
                    told = flat_paper_holds(web, orders, weights, number, thing)
                    assert_truth(self, told, holds_slowly(web, orders, weights, number, thing))
                    if told:
                        # No paper, whoever wrote it, holds for more than the least weight.
                        self.assertLessEqual(number, least)
                        found += thing != paper
        self.assertGreater(found, 100)

    def test_papers_of_another_web(self):
        other = fan(4)
        self.no(*other, None, 0, PAPER)
        self.no(WHEEL, FLAT, None, 0, flat_paper(*other), ((), ()))

    def test_a_part_more_or_less(self):
        layers, table = PAPER
        self.no(WHEEL, FLAT, None, 0, (), (layers,), (layers, table, ()), (table, layers), (layers, table, None),
                [layers, table], (layers[:1], table), (layers + layers[:1], table), ((layers[0], layers[1][:3]), table),
                ((layers[0], layers[1] + (1,)), table), ((layers[0], ()), table), ((layers[0], None), table),
                ([*layers], table), (layers, [*table]), ((layers[0], [*layers[1]]), table), (None, table),
                (layers, None), ({}, table), (layers, {}), ({0: layers[0], 1: layers[1]}, table), (layers, {(0, 3): 1}),
                layers, table, (PAPER,), (PAPER, PAPER), (layers, 1), "paper")

    def test_anything(self):
        for web, orders in ((WHEEL, FLAT), ODD_PAIR, flat_web(1, 40, 100, flips=3)):
            for number in (0, 10 ** 40):
                self.no(web, orders, None, number, *plain_wrong())
            self.no(web, orders, None, 0, *[(thing, ()) for thing in plain_wrong()])
            self.no(web, orders, None, 0, *[((), thing) for thing in plain_wrong()])
        self.no(WHEEL, FLAT, None, 0, *[(LAYERS, thing) for thing in plain_wrong()])
        self.no(WHEEL, FLAT, None, 0, *[(LAYERS, (((0, 3), thing),)) for thing in plain_wrong()
                                        if thing not in (0, 1) or isinstance(thing, bool)])
        self.no((1, ()), ((),), None, 0, *[thing for thing in plain_wrong() if thing != ((), ())])

    def test_each_part_of_another_kind(self):
        self.no(WHEEL, FLAT, None, 0, *spoiled(PAPER))
        self.no(*Tables.FOUR, None, 0, *spoiled(flat_paper(*Tables.FOUR)))

    def test_truths_are_no_numbers(self):
        self.no(WHEEL, FLAT, None, 0, (((False, 1, 1, 1), LAYERS[1]), PAPER[1]),
                (((0, True, 1, 1), LAYERS[1]), PAPER[1]), (LAYERS, (((0, 3), True),)), (LAYERS, (((False, 3), 1),)))

    def test_nothing_is_changed(self):
        for thing in plain_wrong() + [PAPER, (LAYERS, [((0, 3), 1)]), ([[0], {}], {})]:
            assert_steady(self, flat_paper_holds, WHEEL, FLAT, None, 1, thing)
            assert_steady(self, flat_paper_holds, WHEEL, FLAT, (GREAT,) * 6, 1, thing)


if __name__ == "__main__":
    unittest.main()
