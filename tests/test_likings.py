"""[10] and [1] (b): leads, astray, likings_many, liking_at, liking_number."""

import math
import random
import unittest

from ripepicks.errors import Astray, NoLiking, NotRow
from ripepicks.likings import astray, leads, liking_at, liking_number, likings_many
from ripepicks.orchards import called, gone_from, made
from ripepicks.picking import pick
from ripepicks.uppers import uppers
from tests.helper import (BAD_ROWS, GREATEST, GROVE, LIKING, ROW, all_likings, all_rows, check_manners, check_refused,
                          check_refused_row_not_kept, check_same, coming_rows, fruits_in, in_lists, leading, plain_pick,
                          random_rows, ready_by, small_orchards)

NONE_COMES = [(), (("a", ()),), (("a", (("b",),)), ("b", (("a",),)), ("c", ()))]


def plain_astray(orchard, row, liking):
    """The first fruit of the row that is liked less than its upper, with that one."""
    for at, fruit in enumerate(row):
        ripe_later = [each for each in row[at + 1:] if each in ready_by(orchard, row[:at])]
        if ripe_later and liking.index(ripe_later[0]) < liking.index(fruit):
            return (fruit, ripe_later[0])
    return None


class Leads(unittest.TestCase):
    def test_by_hand(self):
        self.assertIs(leads(GROVE, ROW, LIKING), True)
        self.assertIs(astray(GROVE, ROW, LIKING), None)
        for liking, pair in [(("fig", "kaki", "lime", "nut", "pear"), ("lime", "fig")),
                             (("lime", "fig", "nut", "pear", "kaki"), ("nut", "fig")),
                             (("fig", "nut", "lime", "pear", "kaki"), ("lime", "fig")),
                             (("nut", "fig", "lime", "pear", "kaki"), ("lime", "fig"))]:
            self.assertIs(leads(GROVE, ROW, liking), False)
            check_same(self, astray(GROVE, ROW, liking), pair)
        for orchard in NONE_COMES:
            for liking in all_likings(orchard):
                self.assertIs(leads(orchard, [], liking), True)
                self.assertIs(astray(orchard, [], liking), None)

    def test_fruits_that_stay_stand_anywhere(self):
        for place in range(5):
            liking = ["pear", "nut", "lime", "fig"]
            liking.insert(place, "kaki")
            self.assertIs(leads(GROVE, ROW, tuple(liking)), True)

    def test_by_picking_with_all_likings(self):
        for orchard in small_orchards(10, 40):
            for row in all_rows(orchard):
                for liking in all_likings(orchard):
                    due = plain_pick(orchard, liking) == row
                    self.assertIs(leads(orchard, row, liking), due)
                    pair = astray(orchard, row, liking)
                    check_same(self, pair, plain_astray(orchard, row, liking))
                    self.assertIs(pair is None, due)

    def test_manners(self):
        for function in (leads, astray):
            for liking in (LIKING, ("fig", "kaki", "lime", "nut", "pear")):
                check_manners(self, function, {"orchard": in_lists(GROVE), "row": list(ROW), "liking": list(liking)})
            check_manners(self, function, {"orchard": [], "row": [], "liking": []})


class Numbers(unittest.TestCase):
    def test_by_hand(self):
        # Lime and nut ahead of the fig: a third of all orders of five.
        self.assertEqual(likings_many(GROVE, ROW), 40)
        check_same(self, liking_at(GROVE, ROW, 0), ("kaki", "lime", "nut", "fig", "pear"))
        check_same(self, liking_at(GROVE, ROW, 1), ("kaki", "lime", "nut", "pear", "fig"))
        check_same(self, liking_at(GROVE, ROW, 39), ("pear", "nut", "lime", "kaki", "fig"))
        self.assertEqual(liking_number(GROVE, ROW, ("kaki", "lime", "nut", "pear", "fig")), 1)
        self.assertEqual(liking_number(GROVE, ROW, ("pear", "nut", "lime", "kaki", "fig")), 39)

    def test_none_comes(self):
        self.assertEqual([likings_many(orchard, []) for orchard in NONE_COMES], [1, 1, 6])
        check_same(self, liking_at((), [], 0), ())
        check_same(self, liking_number((), [], ()), 0)
        for orchard in NONE_COMES:
            for number, liking in enumerate(all_likings(orchard)):
                check_same(self, liking_at(orchard, [], number), liking)
                check_same(self, liking_number(orchard, [], liking), number)

    def test_by_picking_with_all_likings(self):
        for orchard in small_orchards(20, 60):
            found = leading(orchard)
            self.assertEqual(sorted(map(list, found)), all_rows(orchard))
            for row, likings in found.items():
                self.assertEqual(likings_many(orchard, list(row)), len(likings))
                for number, liking in enumerate(likings):
                    check_same(self, liking_at(orchard, list(row), number), liking)
                    check_same(self, liking_number(orchard, list(row), liking), number)

    def test_over_all_rows_all_likings(self):
        rng = random.Random(30)
        for round_ in range(12):
            names = list("abcdefg"[:rng.randint(5, 7)])
            orchard = made(coming_rows(rng, names, 3, 2))
            many = sum(likings_many(orchard, row) for row in all_rows(orchard))
            self.assertEqual(many, math.factorial(len(names)))

    def test_no_liking(self):
        for number in (40, 41, 10 ** 30, -1, -2, -40, -41, -10 ** 30):
            check_refused(self, NoLiking, number, liking_at, {"orchard": GROVE, "row": ROW, "number": number})
        for number in (1, 2, -1, -2):
            check_refused(self, NoLiking, number, liking_at, {"orchard": (), "row": [], "number": number})
        self.assertEqual(NoLiking.__bases__, (LookupError,))

    def test_astray(self):
        for liking in all_likings(GROVE):
            pair = plain_astray(GROVE, ROW, liking)
            given = {"orchard": GROVE, "row": ROW, "liking": liking}
            if pair is None:
                self.assertEqual(liking_at(GROVE, ROW, liking_number(**given)), liking)
            else:
                check_refused(self, Astray, pair, liking_number, given, told=True)
        self.assertEqual(Astray.__bases__, (ValueError,))

    def test_not_row_first(self):
        wrong = ("fig", "kaki", "lime", "nut", "pear")
        for row in BAD_ROWS:
            for liking in (LIKING, wrong):
                for function in (leads, astray, liking_number):
                    check_refused(self, NotRow, row, function, {"orchard": GROVE, "row": row, "liking": liking})
            check_refused(self, NotRow, row, likings_many, {"orchard": GROVE, "row": row})
            for number in (0, -1, 10 ** 30):
                check_refused(self, NotRow, row, liking_at, {"orchard": GROVE, "row": row, "number": number})
        check_refused(self, NotRow, ["a"], likings_many, {"orchard": (), "row": ["a"]})
        self.assertEqual(NotRow.__bases__, (ValueError,))

    def test_the_refused_row_is_not_kept(self):
        check_refused_row_not_kept(self, NotRow, likings_many, GROVE)

    def test_manners(self):
        check_manners(self, likings_many, {"orchard": in_lists(GROVE), "row": list(ROW)})
        check_manners(self, likings_many, {"orchard": [], "row": []})
        check_manners(self, liking_at, {"orchard": in_lists(GROVE), "row": list(ROW), "number": 17})
        check_manners(self, liking_number, {"orchard": in_lists(GROVE), "row": list(ROW), "liking": list(LIKING)})


class Greatest(unittest.TestCase):
    def check_there_and_back(self, orchard, row, numbers):
        for number in numbers:
            liking = liking_at(orchard, row, number)
            self.assertEqual(plain_pick(orchard, liking), row)
            self.assertIs(leads(orchard, row, liking), True)
            self.assertEqual(liking_number(orchard, row, liking), number)

    def test_24_factorial(self):
        many = math.factorial(24)
        rng = random.Random(40)
        none = made([(fruit, []) for fruit in GREATEST])
        in_turn = made([("a", [[]])] + [(fruit, [[ahead]]) for ahead, fruit in zip(GREATEST, GREATEST[1:])])
        for orchard, row in [(none, []), (in_turn, list(GREATEST))]:
            self.assertEqual(likings_many(orchard, row), many)
            check_same(self, liking_at(orchard, row, 0), tuple(GREATEST))
            check_same(self, liking_at(orchard, row, many - 1), tuple(GREATEST[::-1]))
            check_same(self, liking_at(orchard, row, many // 24 * 5), ("f", *GREATEST.replace("f", "")))
            check_refused(self, NoLiking, many, liking_at, {"orchard": orchard, "row": row, "number": many})
            self.check_there_and_back(orchard, row, [0, many - 1, *[rng.randrange(many) for round_ in range(3)]])

    def test_24_from_the_first_on(self):
        orchard = made([(fruit, [[]]) for fruit in GREATEST])
        row = random.Random(50).sample(GREATEST, 24)
        self.assertEqual(likings_many(orchard, row), 1)
        check_same(self, liking_at(orchard, row, 0), tuple(row))
        self.assertEqual(liking_number(orchard, row, tuple(row)), 0)
        moved = (*row[:10], row[11], row[10], *row[12:])
        check_same(self, astray(orchard, row, moved), (row[10], row[11]))
        self.assertIs(leads(orchard, row, moved), False)

    def test_24_that_hang(self):
        rng = random.Random(60)
        for round_ in range(8):
            orchard = made(rng.choice([random_rows, coming_rows])(rng, list(GREATEST), 6, 6))
            liking = tuple(rng.sample(GREATEST, 24))
            row = pick(orchard, liking)
            many = likings_many(orchard, row)
            self.assertIs(leads(orchard, row, liking), True)
            number = liking_number(orchard, row, liking)
            self.assertEqual(liking_at(orchard, row, number), liking)
            self.check_there_and_back(orchard, row, [0, many - 1, rng.randrange(many)])
            told = [liking_at(orchard, row, each) for each in sorted({rng.randrange(many) for again in range(3)})]
            self.assertEqual(told, sorted(told))
            other = tuple(rng.sample(GREATEST, 24))
            check_same(self, astray(orchard, row, other), plain_astray(orchard, row, other))
            self.assertIs(leads(orchard, row, other), plain_pick(orchard, other) == row)

    def test_told_ones_handed_in_again(self):
        rng = random.Random(70)
        orchard = made(coming_rows(rng, list(GREATEST), 6, 6))
        row = pick(orchard, tuple(GREATEST))
        new = dict(zip(GREATEST, reversed(GREATEST)))
        turned = called(orchard, new)
        self.assertEqual(likings_many(turned, [new[fruit] for fruit in row]), likings_many(orchard, row))
        rest = gone_from(orchard, row[:1])
        self.assertEqual(fruits_in(rest), [fruit for fruit in GREATEST if fruit != row[0]])
        # As soon as the first one is gone, the others have the uppers that they had.
        self.assertEqual(uppers(rest, row[1:]), uppers(orchard, row)[1:])


if __name__ == "__main__":
    unittest.main()
