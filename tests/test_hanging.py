"""[14]: ill_hung, least_hung, hung_anew."""

import itertools
import random
import unittest

from ripepicks.hanging import hung_anew, ill_hung, least_hung
from ripepicks.orchards import is_orchard, made
from ripepicks.picking import pick
from tests.helper import (GREATEST, GROVE, LIKING, ROW, all_likings, all_orchards, check_manners, check_same, coming_rows,
                          fruits_in, in_lists, plain_pick, plain_ripe, random_rows, small_orchards)

PRICES = [("pear", 3), ("fig", 10), ("nut", 500), ("lime", 0), ("kaki", 7)]


def all_lists(names):
    """All lists of unlike ones of the names."""
    return [list(row) for size in range(len(names) + 1) for row in itertools.permutations(names, size)]


def plain_ill(orchard, liking, row):
    """Each clause of [14], fruit by fruit."""
    told = []
    for fruit, lots in orchard:
        ahead = row[:row.index(fruit)] if fruit in row else row
        passed = [at for at, each in enumerate(ahead) if liking.index(each) > liking.index(fruit)]
        if fruit in row and not plain_ripe(lots, ahead):
            told.append((fruit, "late"))
        elif any(plain_ripe(lots, row[:at]) for at in passed) or fruit not in row and plain_ripe(lots, row):
            told.append((fruit, "soon"))
    return told


def plain_anew(orchard, liking, row):
    """Those that hang ill have the LOT of all ahead of them in the row, or none."""
    ill = dict(plain_ill(orchard, liking, row))
    rows = []
    for fruit, lots in orchard:
        if fruit in ill:
            lots = (tuple(sorted(row[:row.index(fruit)])),) if fruit in row else ()
        rows.append((fruit, lots))
    return tuple(rows)


class Hanging(unittest.TestCase):
    def test_by_hand(self):
        check_same(self, ill_hung(GROVE, LIKING, ROW), [])
        self.assertEqual(least_hung(GROVE, LIKING, ROW, PRICES), 0)
        check_same(self, hung_anew(GROVE, LIKING, ROW), GROVE)
        # The nut waits for the lime, the kaki for ever; the lime is ripe as the fig goes; the pear would be by all of it.
        row = ["nut", "kaki", "fig", "lime"]
        check_same(self, ill_hung(GROVE, LIKING, row), [("kaki", "late"), ("lime", "soon"), ("nut", "late"), ("pear", "soon")])
        self.assertEqual(least_hung(GROVE, LIKING, row, PRICES), 510)
        check_same(self, hung_anew(GROVE, LIKING, row), (("fig", ((),)), ("kaki", (("nut",),)),
                                                         ("lime", (("fig", "kaki", "nut"),)), ("nut", ((),)), ("pear", ())))

    def test_the_bare_row(self):
        check_same(self, ill_hung((), (), []), [])
        self.assertEqual(least_hung((), (), [], []), 0)
        check_same(self, hung_anew((), (), []), ())
        check_same(self, ill_hung(GROVE, LIKING, []), [("fig", "soon"), ("lime", "soon")])
        self.assertEqual(least_hung(GROVE, LIKING, [], PRICES), 10)
        check_same(self, dict(hung_anew(GROVE, LIKING, []))["fig"], ())
        check_same(self, ill_hung((("a", ()),), ("a",), []), [])
        check_same(self, ill_hung((("a", ()),), ("a",), ["a"]), [("a", "late")])
        check_same(self, hung_anew((("a", ()),), ("a",), ["a"]), (("a", ((),)),))

    def test_passed_over_by_one_that_is_liked_less(self):
        orchard = made([("a", [[]]), ("b", [[]]), ("c", [["b"]])])
        # The c is ripe as the b is gone, and a goes then, which is liked less; the b goes at once though it's liked least.
        check_same(self, ill_hung(orchard, ("c", "a", "b"), ["b", "a", "c"]), [("a", "soon"), ("c", "soon")])
        check_same(self, hung_anew(orchard, ("c", "a", "b"), ["b", "a", "c"]),
                   (("a", (("b",),)), ("b", ((),)), ("c", (("a", "b"),))))
        check_same(self, ill_hung(orchard, ("a", "c", "b"), ["b", "a", "c"]), [("a", "soon")])
        check_same(self, ill_hung(orchard, ("b", "a", "c"), ["b", "a", "c"]), [])

    def test_small_orchards(self):
        rng = random.Random(14)
        for orchard in small_orchards(24, 40):
            fruits = fruits_in(orchard)
            cases = [(liking, row) for liking in all_likings(orchard) for row in all_lists(fruits)]
            for liking, row in rng.sample(cases, min(len(cases), 100)):
                self.check_one(rng, orchard, liking, row)

    def check_one(self, rng, orchard, liking, row):
        due = plain_ill(orchard, liking, row)
        check_same(self, ill_hung(orchard, liking, row), due)
        self.assertIs(due == [], plain_pick(orchard, liking) == row)
        anew = hung_anew(orchard, liking, row)
        check_same(self, anew, plain_anew(orchard, liking, row))
        self.assertIs(is_orchard(anew), True)
        self.assertEqual(pick(anew, liking), row)
        prices = [(fruit, rng.choice([0, 1, 2, 10 ** 9])) for fruit in rng.sample(liking, len(liking))]
        together = sum(dict(prices)[fruit] for fruit, word in due)
        self.assertEqual(least_hung(orchard, liking, row, prices), together)

    def test_no_less_does(self):
        rng = random.Random(34)
        for names in ("a", "ab", "abc"):
            orchards = all_orchards(names)
            prices = [(name, 10 ** at) for at, name in enumerate(names)]
            for liking in itertools.permutations(names):
                rows = [plain_pick(orchard, liking) for orchard in orchards]
                for row in all_lists(names):
                    leading = [orchard for orchard, each in zip(orchards, rows) if each == row]
                    for orchard in rng.sample(orchards, min(len(orchards), 12)):
                        changed = [sum(dict(prices)[one[0]] for one, other in zip(orchard, each) if one != other)
                                   for each in leading]
                        self.assertEqual(least_hung(orchard, liking, row, prices), min(changed))

    def test_manners(self):
        for row in (ROW, ["nut", "kaki", "fig", "lime"], []):
            given = {"orchard": in_lists(GROVE), "liking": list(LIKING), "row": list(row)}
            for function in (ill_hung, hung_anew):
                check_manners(self, function, {**given, "orchard": in_lists(GROVE), "liking": list(LIKING), "row": list(row)})
            check_manners(self, least_hung, {**given, "prices": in_lists(PRICES)})
            for prices in itertools.permutations(PRICES):
                told = least_hung(GROVE, LIKING, row, list(prices))
                self.assertEqual(told, least_hung(GROVE, LIKING, row, PRICES))

    def test_24_fruits(self):
        rng = random.Random(44)
        for round_ in range(20):
            orchard = made(rng.choice([random_rows, coming_rows])(rng, list(GREATEST), 6, 6))
            liking = tuple(rng.sample(GREATEST, 24))
            for row in (rng.sample(GREATEST, rng.randint(0, 24)), rng.sample(GREATEST, 24), plain_pick(orchard, liking)):
                self.check_one(rng, orchard, liking, row)
        prices = [(fruit, 10 ** 9) for fruit in GREATEST]
        never = made([(fruit, []) for fruit in GREATEST])
        self.assertEqual(least_hung(never, tuple(GREATEST), list(GREATEST[::-1]), prices), 24 * 10 ** 9)


if __name__ == "__main__":
    unittest.main()
