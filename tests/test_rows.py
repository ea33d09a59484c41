"""[8]: is_row, rows_many, row_at, number_of."""

import itertools
import math
import random
import unittest

from ripepicks.errors import NoRow, NotRow
from ripepicks.orchards import called, gone_from, made, side_by_side
from ripepicks.picking import pick
from ripepicks.rows import is_row, number_of, row_at, rows_many
from tests.helper import (GREATEST, GROVE, TWELVE, all_likings, all_nested, all_rows, any_things, check_manners,
                          check_refused, check_refused_row_not_kept, check_same, coming_rows, fruits_in, in_lists,
                          ready_by, small_orchards)

GROVE_ROWS = [["fig", "lime", "nut", "pear"], ["lime", "fig", "nut", "pear"], ["lime", "nut", "fig", "pear"]]
NONE_COMES = [(), (("a", ()),), (("a", (("b",),)), ("b", (("a",),)))]


def plain_many(orchard):
    """How many rows, by how many ways lead to each that can be gone."""
    ways = {(): 1}
    while True:
        longer = {}
        for gone, many in ways.items():
            for fruit in ready_by(orchard, gone):
                key = tuple(sorted((*gone, fruit)))
                longer[key] = longer.get(key, 0) + many
        if not longer:
            return sum(ways.values())
        ways = longer


class IsRow(unittest.TestCase):
    def test_by_hand(self):
        for row in GROVE_ROWS:
            self.assertIs(is_row(GROVE, row), True)
            self.assertIs(is_row(GROVE, tuple(row)), False)
            self.assertIs(is_row(GROVE, row[:-1]), False)
            self.assertIs(is_row(GROVE, row[::-1]), False)
            self.assertIs(is_row(GROVE, [*row, row[0]]), False)
            self.assertIs(is_row(GROVE, [*row, "kaki"]), False)
            self.assertIs(is_row(GROVE, [*row, "plum"]), False)
        self.assertIs(is_row(GROVE, []), False)
        for orchard in NONE_COMES:
            self.assertIs(is_row(orchard, []), True)
            self.assertIs(is_row(orchard, ()), False)
            self.assertIs(is_row(orchard, ["a"]), False)

    def test_things_of_any_kind(self):
        orchards = [*NONE_COMES, (("a", ((),)),), (("a", ((),)), ("b", ())), (("a", ((),)), ("ab", (("a",),)), ("b", ((),)))]
        parts = ["a", "ab", "b", "", "A", 0, 1, True, None, (), ("a",), ["a"]]
        sequences = [each for size in range(4) for each in itertools.product(parts, repeat=size)]
        things = [*any_things(), *sequences, *map(list, sequences), "a", "ab", "b", *all_nested(["a"], range(10)),
                  *all_nested(["a", "b"], range(10)), *all_nested([], range(10))]
        for orchard in orchards:
            rows = all_rows(orchard)
            for thing in things:
                told = is_row(orchard, thing)
                self.assertIs(told, thing in rows, (orchard, thing))
                self.assertIs(is_row(in_lists(orchard), thing), told)

    def test_just_the_rows_of_likings(self):
        for orchard in small_orchards(8, 30):
            rows = all_rows(orchard)
            self.assertEqual(sorted(map(list, {tuple(pick(orchard, liking)) for liking in all_likings(orchard)})), rows)
            for size in range(len(orchard) + 1):
                for thing in itertools.permutations([*fruits_in(orchard), "x"], size):
                    self.assertIs(is_row(orchard, list(thing)), list(thing) in rows)

    def test_manners(self):
        check_manners(self, is_row, {"orchard": in_lists(GROVE), "thing": list(GROVE_ROWS[1])})
        check_manners(self, is_row, {"orchard": in_lists(GROVE), "thing": tuple(GROVE_ROWS[1])})
        self.assertIs(is_row(thing=GROVE_ROWS[0], orchard=GROVE), True)


class Numbers(unittest.TestCase):
    def test_by_hand(self):
        self.assertEqual(rows_many(GROVE), 3)
        for number, row in enumerate(GROVE_ROWS):
            check_same(self, row_at(GROVE, number), row)
            check_same(self, number_of(GROVE, row), number)
        for orchard in NONE_COMES:
            self.assertEqual(rows_many(orchard), 1)
            check_same(self, row_at(orchard, 0), [])
            check_same(self, number_of(orchard, []), 0)

    def test_all_rows_of_small_orchards(self):
        for orchard in small_orchards(18, 100):
            rows = all_rows(orchard)
            self.assertEqual(rows, sorted(rows))
            self.assertEqual(rows_many(orchard), len(rows))
            for number, row in enumerate(rows):
                check_same(self, row_at(orchard, number), row)
                check_same(self, number_of(orchard, row), number)
                self.assertIs(is_row(orchard, row), True)

    def test_names_rise_as_texts(self):
        orchard = made([(fruit, [[]]) for fruit in ("b", "aa", "a", "ab")])
        rows = sorted(map(list, itertools.permutations(["b", "aa", "a", "ab"])))
        self.assertEqual([row_at(orchard, number) for number in range(24)], rows)

    def test_no_row(self):
        for orchard, many in [(GROVE, 3), *[(each, 1) for each in NONE_COMES]]:
            for number in (many, many + 1, 10 ** 30, -1, -2, -many, -many - 1, -10 ** 30):
                check_refused(self, NoRow, number, row_at, {"orchard": orchard, "number": number})
        self.assertEqual(NoRow.__bases__, (LookupError,))

    def test_not_row(self):
        rows = GROVE_ROWS
        for row in ([], ["fig"], rows[0][:-1], rows[0][::-1], [*rows[0], "fig"], [*rows[0], "kaki"], ["kaki"], ["fig"] * 4,
                    ["fig", "fig", "lime", "nut", "pear"], ["nut", "lime", "fig", "pear"], [*rows[0], "plum"], ["", "x y"]):
            check_refused(self, NotRow, row, number_of, {"orchard": GROVE, "row": row})
        for orchard in NONE_COMES:
            check_refused(self, NotRow, ["a"], number_of, {"orchard": orchard, "row": ["a"]})
        self.assertEqual(NotRow.__bases__, (ValueError,))

    def test_the_refused_row_is_not_kept(self):
        check_refused_row_not_kept(self, NotRow, number_of, GROVE)

    def test_manners(self):
        check_manners(self, rows_many, {"orchard": in_lists(GROVE)})
        check_manners(self, rows_many, {"orchard": []})
        check_manners(self, row_at, {"orchard": in_lists(GROVE), "number": 2})
        check_manners(self, row_at, {"orchard": [], "number": 0})
        check_manners(self, number_of, {"orchard": in_lists(GROVE), "row": list(GROVE_ROWS[2])})


class Greatest(unittest.TestCase):
    def test_12_all_ripe_from_the_first_on(self):
        orchard = made([(fruit, [[]]) for fruit in TWELVE])
        many = math.factorial(12)
        self.assertEqual(rows_many(orchard), many)
        check_same(self, row_at(orchard, 0), list(TWELVE))
        check_same(self, row_at(orchard, 1), list("abcdefghijlk"))
        check_same(self, row_at(orchard, many - 1), list(TWELVE[::-1]))
        check_refused(self, NoRow, many, row_at, {"orchard": orchard, "number": many})
        rng = random.Random(28)
        for number in [0, many - 1, *[rng.randrange(many) for round_ in range(30)]]:
            self.assertEqual(number_of(orchard, row_at(orchard, number)), number)

    def test_12_that_hang_together(self):
        rng = random.Random(38)
        orchards = [made([(fruit, [[]]) for fruit in TWELVE[:-1]] + [("l", [TWELVE[:6], TWELVE[5:11]])])]
        orchards += [made(coming_rows(rng, list(TWELVE), 6, 6)) for round_ in range(10)]
        for orchard in orchards:
            many = rows_many(orchard)
            self.assertEqual(many, plain_many(orchard))
            told = [row_at(orchard, number) for number in sorted({rng.randrange(many) for round_ in range(20)})]
            self.assertEqual(told, sorted(told))
            for number in [0, many - 1, rng.randrange(many)]:
                row = row_at(orchard, number)
                self.assertIs(is_row(orchard, row), True)
                self.assertEqual(number_of(orchard, row), number)
            # How many rows go ahead of those that begin with a fruit: all that begin with a lesser one.
            ahead = 0
            for fruit in ready_by(orchard, []):
                self.assertEqual(row_at(orchard, ahead)[0], fruit)
                self.assertEqual(number_of(orchard, [fruit, *row_at(gone_from(orchard, [fruit]), 0)]), ahead)
                ahead += rows_many(gone_from(orchard, [fruit]))
            self.assertEqual(ahead, many)

    def test_two_told_side_by_side(self):
        one = made([(fruit, [[]]) for fruit in TWELVE[:-1]] + [("l", [TWELVE[:6], TWELVE[5:11]])])
        other = called(one, dict(zip(TWELVE, GREATEST[12:])))
        both = side_by_side(one, other)
        many = rows_many(one) ** 2 * math.comb(24, 12)
        self.assertEqual(rows_many(both), many)
        rng = random.Random(48)
        for number in [0, many - 1, rng.randrange(many)]:
            row = row_at(both, number)
            self.assertIs(is_row(both, row), True)
            self.assertEqual(number_of(both, row), number)

    def test_is_row_of_24(self):
        rng = random.Random(58)
        for round_ in range(20):
            orchard = made(coming_rows(rng, list(GREATEST), 6, 6))
            row = pick(orchard, rng.sample(GREATEST, 24))
            self.assertIs(is_row(orchard, row), True)
            self.assertIs(is_row(orchard, row[:-1]), False)
            at = rng.randrange(len(row))
            moved = [*row[at:], *row[:at]]
            due = all(fruit in ready_by(orchard, moved[:place]) for place, fruit in enumerate(moved))
            self.assertIs(is_row(orchard, moved), due)


if __name__ == "__main__":
    unittest.main()
