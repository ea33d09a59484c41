"""[9]: ripe_from, uppers, above, is_sure."""

import random
import unittest

from ripepicks.errors import NoFruit, NotRow
from ripepicks.orchards import made
from ripepicks.picking import passed_by, pick
from ripepicks.uppers import above, is_sure, ripe_from, uppers
from tests.helper import (ANY_TEXTS, BAD_ROWS, GREATEST, GROVE, ROW, all_likings, all_rows, check_manners, check_refused,
                          check_refused_row_not_kept, check_same, coming_rows, fruits_in, in_lists, leading, random_rows,
                          ready_by, small_orchards)


def plain_uppers(orchard, row):
    """Of those that were ripe by all ahead of it and went later, the one that went first."""
    told = []
    for at, fruit in enumerate(row):
        later = [each for each in row[at + 1:] if each in ready_by(orchard, row[:at])]
        told.append((fruit, later[0] if later else None))
    return told


def plain_from(orchard, row):
    """How many were gone as each was ripe first."""
    return [(fruit, next(many for many in range(len(row)) if fruit in ready_by(orchard, row[:many]))) for fruit in row]


def plain_above(orchard, row, fruit):
    """Its upper, and those above that one."""
    upper = dict(plain_uppers(orchard, row)).get(fruit)
    return [] if upper is None else [upper, *plain_above(orchard, row, upper)]


class Uppers(unittest.TestCase):
    def test_by_hand(self):
        check_same(self, ripe_from(GROVE, ROW), [("lime", 0), ("nut", 1), ("fig", 0), ("pear", 3)])
        check_same(self, uppers(GROVE, ROW), [("lime", "fig"), ("nut", "fig"), ("fig", None), ("pear", None)])
        row = ["fig", "lime", "nut", "pear"]
        check_same(self, ripe_from(GROVE, row), [("fig", 0), ("lime", 0), ("nut", 2), ("pear", 3)])
        check_same(self, uppers(GROVE, row), [("fig", "lime"), ("lime", None), ("nut", None), ("pear", None)])
        self.assertEqual(ripe_from((), []), [])
        self.assertEqual(uppers((), []), [])
        self.assertEqual(ripe_from((("a", ()),), []), [])
        self.assertEqual(uppers((("a", ()),), []), [])

    def test_all_from_the_first_on(self):
        orchard = made([(fruit, [[]]) for fruit in "abcd"])
        check_same(self, ripe_from(orchard, list("cadb")), [("c", 0), ("a", 0), ("d", 0), ("b", 0)])
        check_same(self, uppers(orchard, list("cadb")), [("c", "a"), ("a", "d"), ("d", "b"), ("b", None)])
        check_same(self, above(orchard, list("cadb"), "c"), ["a", "d", "b"])

    def test_above_by_hand(self):
        orchard = made([("a", [[]]), ("b", [["a"]]), ("c", [["b"]]), ("d", [["a"]]), ("e", [[]]), ("f", [])])
        row = ["a", "b", "c", "d", "e"]
        check_same(self, uppers(orchard, row), [("a", "e"), ("b", "d"), ("c", "d"), ("d", "e"), ("e", None)])
        for fruit, due in [("a", ["e"]), ("b", ["d", "e"]), ("c", ["d", "e"]), ("d", ["e"]), ("e", []), ("f", [])]:
            check_same(self, above(orchard, row, fruit), due)
            for other in "abcdef":
                self.assertIs(is_sure(orchard, row, fruit, other), other in due)

    def test_each_row_of_small_orchards(self):
        for orchard in small_orchards(9, 100):
            for row in all_rows(orchard):
                check_same(self, ripe_from(orchard, row), plain_from(orchard, row))
                check_same(self, uppers(orchard, row), plain_uppers(orchard, row))
                for fruit in fruits_in(orchard):
                    due = plain_above(orchard, row, fruit)
                    check_same(self, above(orchard, row, fruit), due)
                    for other in fruits_in(orchard):
                        self.assertIs(is_sure(orchard, row, fruit, other), other in due)

    def test_uppers_by_each_picking(self):
        for orchard in small_orchards(19, 40):
            for liking in all_likings(orchard):
                picks = passed_by(orchard, liking)
                row = [fruit for fruit, passed in picks]
                due = [(fruit, min(passed, key=row.index, default=None)) for fruit, passed in picks]
                check_same(self, uppers(orchard, row), due)

    def test_sure_is_so_in_each_liking(self):
        for orchard in small_orchards(29, 40):
            for row, likings in leading(orchard).items():
                for one in fruits_in(orchard):
                    self.assertIs(is_sure(orchard, list(row), one, one), False)
                    for other in fruits_in(orchard):
                        if one != other:
                            due = all(liking.index(one) < liking.index(other) for liking in likings)
                            self.assertIs(is_sure(orchard, list(row), one, other), due)

    def test_manners(self):
        for function in (ripe_from, uppers):
            check_manners(self, function, {"orchard": in_lists(GROVE), "row": list(ROW)})
            check_manners(self, function, {"orchard": [], "row": []})
        for fruit in ("nut", "pear", "kaki"):
            check_manners(self, above, {"orchard": in_lists(GROVE), "row": list(ROW), "fruit": fruit})
            check_manners(self, is_sure, {"orchard": in_lists(GROVE), "row": list(ROW), "one": fruit, "other": "fig"})


class Refused(unittest.TestCase):
    def test_not_row(self):
        for row in BAD_ROWS:
            check_refused(self, NotRow, row, ripe_from, {"orchard": GROVE, "row": row})
            check_refused(self, NotRow, row, uppers, {"orchard": GROVE, "row": row})
            for fruit in ("lime", "kaki"):
                check_refused(self, NotRow, row, above, {"orchard": GROVE, "row": row, "fruit": fruit})
                given = {"orchard": GROVE, "row": row, "one": "fig", "other": fruit}
                check_refused(self, NotRow, row, is_sure, given)
        check_refused(self, NotRow, ["a"], uppers, {"orchard": (), "row": ["a"]})
        self.assertEqual(NotRow.__bases__, (ValueError,))

    def test_no_fruit_ahead_of_not_row(self):
        for row in [ROW, *BAD_ROWS]:
            for text in ANY_TEXTS:
                check_refused(self, NoFruit, text, above, {"orchard": GROVE, "row": row, "fruit": text})
                check_refused(self, NoFruit, text, is_sure, {"orchard": GROVE, "row": row, "one": text, "other": "fig"})
                check_refused(self, NoFruit, text, is_sure, {"orchard": GROVE, "row": row, "one": "fig", "other": text})
                check_refused(self, NoFruit, text, is_sure, {"orchard": GROVE, "row": row, "one": text, "other": "zz"})
                check_refused(self, NoFruit, "zz", is_sure, {"orchard": GROVE, "row": row, "one": "zz", "other": text})
        check_refused(self, NoFruit, "plum", above, {"orchard": GROVE, "row": ["plum"], "fruit": "plum"})
        self.assertEqual(NoFruit.__bases__, (LookupError,))

    def test_the_refused_row_is_not_kept(self):
        check_refused_row_not_kept(self, NotRow, uppers, GROVE)


class Greatest(unittest.TestCase):
    def test_24_fruits(self):
        rng = random.Random(39)
        for round_ in range(12):
            orchard = made(rng.choice([random_rows, coming_rows])(rng, list(GREATEST), 6, 6))
            row = pick(orchard, tuple(rng.sample(GREATEST, 24)))
            self.assertEqual(ripe_from(orchard, row), plain_from(orchard, row))
            self.assertEqual(uppers(orchard, row), plain_uppers(orchard, row))
            for fruit in rng.sample(GREATEST, 4):
                due = plain_above(orchard, row, fruit)
                self.assertEqual(above(orchard, row, fruit), due)
                self.assertEqual([other for other in GREATEST if is_sure(orchard, row, fruit, other)], sorted(due))

    def test_24_all_from_the_first_on(self):
        orchard = made([(fruit, [[]]) for fruit in GREATEST])
        row = random.Random(49).sample(GREATEST, 24)
        self.assertEqual(uppers(orchard, row), list(zip(row, [*row[1:], None])))
        self.assertEqual(above(orchard, row, row[0]), row[1:])


if __name__ == "__main__":
    unittest.main()
