"""[13] and [1] (f): least_moved, shows_price, moved_liking."""

import itertools
import random
import unittest

from ripepicks.errors import NotRow
from ripepicks.likings import leads
from ripepicks.lots import is_lot
from ripepicks.moving import least_moved, moved_liking, shows_price
from ripepicks.orchards import made, side_by_side
from ripepicks.picking import pick
from tests.helper import (BAD_ROWS, GREATEST, GROVE, LIKING, ROW, all_nested, all_rows, any_things, check_manners,
                          check_refused, check_same, coming_rows, fruits_in, in_lists, in_tuples, leading, plain_pick,
                          random_rows, ready_by, small_orchards, subsets, variants)

# Lime and nut have the fig as their upper: those two are at strife with it.
WRONG = ("fig", "kaki", "lime", "nut", "pear")
PRICES = [("pear", 5), ("nut", 2), ("fig", 4), ("lime", 3), ("kaki", 100)]
SHOWN = [(3, ["lime", "fig"]), (1, ["nut", "fig"]), (1, ["nut"]), (5, ["pear"])]
ALL_RIPE = made([(name, [[]]) for name in "abcd"])
NONE_COMES = [((), ()), ((("a", ()),), ("a",)), ((("a", (("b",),)), ("b", (("a",),))), ("b", "a"))]


def plain_above(orchard, row):
    """For each fruit of the row the list of its upper, of that one's, and so on."""
    found = {}
    for at in reversed(range(len(row))):
        later = [each for each in row[at + 1:] if each in ready_by(orchard, row[:at])]
        found[row[at]] = [later[0], *found[later[0]]] if later else []
    return found


def kept_order(liking, names):
    """The liking without these names."""
    return [fruit for fruit in liking if fruit not in names]


def plain_least(row, liking, prices, likings):
    """The least price of fruits of the row such that one of the likings that lead has all others in their order."""
    price = dict(prices)
    least = None
    for lot in subsets(row):
        together = sum(price[fruit] for fruit in lot)
        if least is None or together < least:
            kept = kept_order(liking, lot)
            if any(kept_order(each, lot) == kept for each in likings):
                least = together
    return least


def is_told_pair(above, liking, thing):
    """Whether it's a pair of an amount from 1 and a row of strife."""
    if type(thing) is not tuple or len(thing) != 2 or type(thing[0]) is not int or thing[0] < 1:
        return False
    fruits = thing[1]
    if type(fruits) is not list or not fruits or not all(type(each) is str and each in above for each in fruits):
        return False
    return all(other in above[one] and liking.index(other) < liking.index(one) for one, other in zip(fruits, fruits[1:]))


def plain_shows(orchard, row, liking, prices, price, thing):
    """Each clause of shows_price."""
    above = plain_above(orchard, row)
    if type(thing) is not list or not all(is_told_pair(above, liking, each) for each in thing):
        return False
    worth = dict(prices)
    if any(sum(amount for amount, fruits in thing if fruit in fruits) < worth[fruit] for fruit in row):
        return False
    return sum(worth[fruit] for fruit in row) - sum(amount for amount, fruits in thing) >= price


def random_prices(rng, orchard):
    """A price for each fruit, in any order."""
    fruits = fruits_in(orchard)
    highest = rng.choice([0, 1, 3, 10, 10 ** 9])
    return [(fruit, rng.randint(0, highest)) for fruit in rng.sample(fruits, len(fruits))]


class LeastMoved(unittest.TestCase):
    def check_told(self, orchard, row, liking, prices):
        """The LOT is of the row's fruits, of that price, can be moved so, and the rows show it; the price is told back."""
        told = least_moved(orchard, row, liking, prices)
        price, lot, rows = told
        self.assertIs(type(told), tuple)
        self.assertTrue(is_lot(lot) and set(lot) <= set(row))
        self.assertEqual(sum(dict(prices)[fruit] for fruit in lot), price)
        moved = moved_liking(orchard, row, liking, list(lot))
        self.assertEqual(plain_pick(orchard, moved), list(row))
        self.assertEqual(kept_order(moved, lot), kept_order(liking, lot))
        for least, due in [(price, True), (price - 1, True), (-10 ** 30, True), (price + 1, False), (10 ** 30, False)]:
            self.assertIs(plain_shows(orchard, row, liking, prices, least, rows), due)
            self.assertIs(shows_price(orchard, row, liking, prices, least, rows), due)
        return told

    def test_by_hand(self):
        for liking in (LIKING, ("nut", "lime", "pear", "kaki", "fig")):
            price, lot, rows = self.check_told(GROVE, ROW, liking, PRICES)
            check_same(self, (price, lot), (0, ()))
            self.assertEqual(sorted(rows), [(2, ["nut"]), (3, ["lime"]), (4, ["fig"]), (5, ["pear"])])
        price, lot, rows = self.check_told(GROVE, ROW, WRONG, PRICES)
        check_same(self, (price, lot), (4, ("fig",)))
        cheap = [("pear", 5), ("nut", 2), ("fig", 4), ("lime", 1), ("kaki", 100)]
        price, lot, rows = self.check_told(GROVE, ROW, WRONG, cheap)
        check_same(self, (price, lot), (3, ("lime", "nut")))
        check_same(self, self.check_told(GROVE, ROW, ("lime", "fig", "nut", "kaki", "pear"), PRICES)[:2], (2, ("nut",)))

    def test_none_comes(self):
        for orchard, liking in NONE_COMES:
            prices = [(fruit, 9) for fruit in liking]
            check_same(self, least_moved(orchard, [], liking, prices), (0, (), []))

    def test_all_from_the_first_on(self):
        # Each is above all that went ahead of it: those that stay in their order must be liked as they went.
        for liking, price, lot in [("abcd", 0, ()), ("dabc", 8, ("d",)), ("dcba", 7, ("a", "b", "c")), ("badc", 5, ("a", "c"))]:
            prices = [("d", 8), ("c", 4), ("b", 2), ("a", 1)]
            told = self.check_told(ALL_RIPE, list("abcd"), tuple(liking), prices)
            self.assertEqual(told[0], min(price, 7))
            if price < 8:
                check_same(self, told[1], lot)

    def test_prices_of_fruits_that_stay_are_no_matter(self):
        for number in (0, 1, 10 ** 9):
            prices = [*PRICES[:4], ("kaki", number)]
            self.assertEqual(self.check_told(GROVE, ROW, WRONG, prices)[:2], (4, ("fig",)))

    def test_prices_of_nought(self):
        for liking in itertools.permutations(WRONG):
            self.assertEqual(self.check_told(GROVE, ROW, liking, [(fruit, 0) for fruit in WRONG])[0], 0)
            prices = [("pear", 0), ("nut", 0), ("fig", 4), ("lime", 0), ("kaki", 0)]
            self.assertEqual(self.check_told(GROVE, ROW, liking, prices)[0], 0)

    def test_nothing_is_moved_where_the_liking_leads(self):
        rng = random.Random(13)
        for orchard in small_orchards(23, 30):
            for row, likings in leading(orchard).items():
                for liking in rng.sample(likings, min(len(likings), 4)):
                    told = self.check_told(orchard, list(row), liking, random_prices(rng, orchard))
                    check_same(self, told[:2], (0, ()))

    def test_by_all_lots_and_all_likings(self):
        rng = random.Random(33)
        for orchard in small_orchards(43, 25):
            for row, likings in leading(orchard).items():
                every = list(itertools.permutations(fruits_in(orchard)))
                for liking in rng.sample(every, min(len(every), 6)):
                    prices = random_prices(rng, orchard)
                    told = self.check_told(orchard, list(row), liking, prices)
                    self.assertEqual(told[0], plain_least(row, liking, prices, likings))

    def test_told_rows_are_not_kept(self):
        told = least_moved(GROVE, ROW, WRONG, PRICES)
        again = least_moved(GROVE, ROW, WRONG, PRICES)
        for amount, fruits in told[2]:
            fruits.append("zz")
        told[2].clear()
        check_same(self, least_moved(GROVE, ROW, WRONG, PRICES), again)

    def test_manners(self):
        for liking in (WRONG, LIKING):
            for prices in (PRICES, PRICES[::-1], sorted(PRICES)):
                given = {"orchard": in_lists(GROVE), "row": list(ROW), "liking": list(liking), "prices": in_lists(prices)}
                check_manners(self, least_moved, given)
        self.assertEqual(least_moved(GROVE, ROW, WRONG, PRICES)[0], least_moved(GROVE, ROW, WRONG, PRICES[::-1])[0])

    def test_not_row(self):
        for row in BAD_ROWS:
            given = {"orchard": GROVE, "row": row, "liking": WRONG, "prices": PRICES}
            check_refused(self, NotRow, row, least_moved, given)
        check_refused(self, NotRow, ["a"], least_moved, {"orchard": (), "row": ["a"], "liking": (), "prices": []})
        self.assertEqual(NotRow.__bases__, (ValueError,))

    def test_24_fruits(self):
        rng = random.Random(53)
        moved = 0
        for round_ in range(25):
            orchard = made(rng.choice([random_rows, coming_rows, coming_rows])(rng, list(GREATEST), 6, 6))
            row = pick(orchard, tuple(rng.sample(GREATEST, 24)))
            moved += bool(self.check_told(orchard, row, tuple(rng.sample(GREATEST, 24)), random_prices(rng, orchard))[1])
        self.assertGreater(moved, 12)

    def test_24_all_from_the_first_on(self):
        rng = random.Random(63)
        orchard = made([(fruit, [[]]) for fruit in GREATEST])
        row = rng.sample(GREATEST, 24)
        prices = [(fruit, 10 ** 9) for fruit in GREATEST]
        self.assertEqual(self.check_told(orchard, row, tuple(row), prices)[:2], (0, ()))
        self.assertEqual(self.check_told(orchard, row, tuple(row[::-1]), prices)[0], 23 * 10 ** 9)
        for round_ in range(6):
            self.check_told(orchard, row, tuple(rng.sample(row, 24)), random_prices(rng, orchard))
        # Twelve of each of two orchards side by side, told and handed in again.
        both = side_by_side(orchard, made([(fruit * 2, [[]]) for fruit in GREATEST]))
        names = fruits_in(both)
        self.check_told(both, rng.sample(names, 48), tuple(rng.sample(names, 48)), [(fruit, 7) for fruit in names])


class ShowsPrice(unittest.TestCase):
    def ask(self, thing, price=4, liking=WRONG, prices=PRICES):
        told = shows_price(GROVE, ROW, liking, prices, price, thing)
        self.assertIs(told, plain_shows(GROVE, ROW, liking, prices, price, thing), thing)
        return told

    def test_by_hand(self):
        for price in (4, 3, 0, -1, -10 ** 30):
            self.assertIs(self.ask(SHOWN, price), True)
        for price in (5, 6, 10 ** 30):
            self.assertIs(self.ask(SHOWN, price), False)
        one_by_one = [(3, ["lime"]), (2, ["nut"]), (4, ["fig"]), (5, ["pear"])]
        self.assertIs(self.ask(one_by_one, 0), True)
        self.assertIs(self.ask(one_by_one, 1), False)
        self.assertIs(self.ask([*one_by_one, (1, ["pear"])], 0), False)
        self.assertIs(self.ask([*one_by_one, (1, ["pear"])], -1), True)

    def test_each_clause(self):
        self.assertIs(self.ask([]), False)
        self.assertIs(self.ask(SHOWN[:3]), False)
        self.assertIs(self.ask(SHOWN[:3], prices=[("pear", 0), *PRICES[1:]]), True)
        for pair in [(0, ["pear"]), (-1, ["pear"]), (True, ["pear"]), (5, []), (5, ["kaki"]), (5, ["plum"]), (5, ["fig", "lime"]),
                     (5, ["lime", "nut"]), (5, ["pear", "pear"]), (5, ("pear",)), [5, ["pear"]], (5, "pear"), (5,),
                     (5, ["pear"], 5), ("5", ["pear"]), (5, [["pear"]]), (5, [None]), (5, [True]), None, 5, "pear"]:
            self.assertIs(self.ask([*SHOWN, pair], -100), False, pair)
        # The fig is above the lime in any liking, but at strife only where it's liked better.
        self.assertIs(self.ask(SHOWN, 4, ("lime", "fig", "nut", "kaki", "pear")), False)
        self.assertIs(self.ask([(2, ["nut", "fig"]), (2, ["fig"]), (3, ["lime"]), (5, ["pear"])], 2,
                               ("lime", "fig", "nut", "kaki", "pear")), True)

    def test_rows_of_three(self):
        prices = [(fruit, 2) for fruit in "abcd"]
        for fruits, due in [("abcd", 6), ("abd", 4), ("acd", 4)]:
            rest = [(2, [fruit]) for fruit in "abcd" if fruit not in fruits]
            for price in (due, due + 1):
                told = shows_price(ALL_RIPE, list("abcd"), tuple("dcba"), prices, price, [(2, list(fruits)), *rest])
                self.assertIs(told, price == due)
        self.assertIs(shows_price(ALL_RIPE, list("abcd"), tuple("dcba"), prices, 0, [(2, list("dcba"))]), False)

    def test_none_comes(self):
        for orchard, liking in NONE_COMES:
            prices = [(fruit, 9) for fruit in liking]
            for price in (-1, 0, 1):
                self.assertIs(shows_price(orchard, [], liking, prices, price, []), price < 1)
                self.assertIs(shows_price(orchard, [], liking, prices, price, ()), False)
                self.assertIs(shows_price(orchard, [], liking, prices, price, [(1, ["a"])]), False)

    def test_things_of_any_kind(self):
        for thing in [*any_things(), in_lists(SHOWN), in_tuples(SHOWN), tuple(SHOWN), *all_nested(SHOWN, range(1, 8)),
                      *variants(SHOWN)]:
            for price in (4, -100):
                self.ask(thing, price)

    def test_variants_of_all_likings(self):
        for liking in itertools.permutations(WRONG):
            for thing in (SHOWN, [(9, ["lime", "fig"]), (9, ["nut", "fig"]), (9, ["pear"])], [(9, [each]) for each in ROW]):
                for price in (4, 0, -100):
                    self.ask(thing, price, liking)

    def test_manners(self):
        for thing in (SHOWN, in_lists(SHOWN), None):
            given = {"orchard": in_lists(GROVE), "row": list(ROW), "liking": list(WRONG), "prices": in_lists(PRICES), "price": 4,
                     "thing": [(amount, list(fruits)) for amount, fruits in thing] if thing == SHOWN else thing}
            check_manners(self, shows_price, given)

    def test_not_row_ahead_of_all(self):
        for row in BAD_ROWS:
            for thing in (None, 5, "a"):
                given = {"orchard": GROVE, "row": row, "liking": WRONG, "prices": PRICES, "price": 4, "thing": thing}
                check_refused(self, NotRow, row, shows_price, given)


class MovedLiking(unittest.TestCase):
    def test_by_hand(self):
        for names, due in [([], None), (["kaki"], None), (["lime"], None), (["nut"], None), (["lime", "pear"], None),
                           (["fig"], ("kaki", "lime", "nut", "fig", "pear")),
                           (["nut", "lime"], ("lime", "nut", "fig", "kaki", "pear")),
                           (["pear", "fig", "kaki"], ("kaki", "lime", "nut", "fig", "pear")),
                           (list(WRONG), ("kaki", "lime", "nut", "fig", "pear"))]:
            check_same(self, moved_liking(GROVE, ROW, WRONG, names), due)
        check_same(self, moved_liking(GROVE, ROW, LIKING, []), LIKING)
        check_same(self, moved_liking(GROVE, ROW, LIKING, ["kaki"]), ("kaki", "pear", "nut", "lime", "fig"))
        for orchard, liking in NONE_COMES:
            check_same(self, moved_liking(orchard, [], liking, []), liking)
            check_same(self, moved_liking(orchard, [], liking, list(liking)), tuple(sorted(liking)))

    def test_by_all_likings(self):
        rng = random.Random(73)
        nones = 0
        for orchard in small_orchards(83, 20):
            for row, likings in leading(orchard).items():
                every = list(itertools.permutations(fruits_in(orchard)))
                for liking in rng.sample(every, min(len(every), 3)):
                    for lot in subsets(liking):
                        names = rng.sample(lot, len(lot))
                        same = [each for each in likings if kept_order(each, lot) == kept_order(liking, lot)]
                        due = min(same) if same else None
                        check_same(self, moved_liking(orchard, list(row), liking, names), due)
                        nones += due is None
        self.assertGreater(nones, 100)

    def test_none_just_where_two_others_are_at_strife(self):
        rng = random.Random(93)
        for orchard in small_orchards(103, 20):
            row = rng.choice(all_rows(orchard))
            above = plain_above(orchard, row)
            for lot in subsets(fruits_in(orchard)):
                liking = tuple(rng.sample(fruits_in(orchard), len(orchard)))
                kept = [fruit for fruit in row if fruit not in lot]
                strife = any(two in above[one] and liking.index(two) < liking.index(one) for one in kept for two in kept)
                self.assertIs(moved_liking(orchard, row, liking, list(lot)) is None, strife)

    def test_manners(self):
        for names in ([], ["fig"], ["nut", "lime", "kaki"]):
            given = {"orchard": in_lists(GROVE), "row": list(ROW), "liking": list(WRONG), "names": list(names)}
            check_manners(self, moved_liking, given)

    def test_not_row(self):
        for row in BAD_ROWS:
            for names in ([], ["fig"], list(WRONG)):
                given = {"orchard": GROVE, "row": row, "liking": WRONG, "names": names}
                check_refused(self, NotRow, row, moved_liking, given)

    def test_24_fruits(self):
        rng = random.Random(113)
        for round_ in range(12):
            orchard = made(coming_rows(rng, list(GREATEST), 6, 6))
            row = pick(orchard, tuple(rng.sample(GREATEST, 24)))
            liking = tuple(rng.sample(GREATEST, 24))
            names = sorted({*rng.sample(GREATEST, 6), *least_moved(orchard, row, liking, random_prices(rng, orchard))[1]})
            told = moved_liking(orchard, row, liking, names)
            self.assertIs(leads(orchard, row, told), True)
            self.assertEqual(kept_order(told, names), kept_order(liking, names))
            # No one can stand ahead of a greater one that stands right ahead of it: it would have been first.
            for at, (one, other) in enumerate(zip(told, told[1:])):
                if other < one:
                    swapped = (*told[:at], other, one, *told[at + 2:])
                    kept = kept_order(swapped, names) == kept_order(liking, names)
                    self.assertFalse(kept and plain_pick(orchard, swapped) == row)


if __name__ == "__main__":
    unittest.main()
