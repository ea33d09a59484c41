"""[6] and [1] (a): comes, stays, shows_stay, needs, soonest, latest."""

import itertools
import random
import unittest

from ripepicks.coming import comes, latest, needs, shows_stay, soonest, stays
from ripepicks.errors import NoFruit, Stays
from ripepicks.orchards import called, made, side_by_side
from tests.helper import (ANY_TEXTS, GREATEST, TWELVE, all_nested, all_rows, any_things, check_manners, check_refused,
                          check_same, coming_rows, fruits_in, in_lists, in_tuples, plain_orchard, random_rows, ready_by,
                          small_orchards, subsets)

# The fig from the first on, the kaki never, plum and quince in a ring, the rest by others.
GROVE = (("fig", ((),)), ("kaki", ()), ("lime", (("fig",), ("kaki",))), ("nut", (("fig", "lime"), ("lime", "kaki"))),
         ("pear", (("kaki", "lime"), ("plum",))), ("plum", (("quince",),)), ("quince", (("fig", "plum"),)))
GROVE = plain_orchard(GROVE)
RING = (("a", (("b",),)), ("b", (("c",),)), ("c", (("a",),)))


def plain_comes(orchard):
    """All that stand in some row."""
    return sorted({fruit for row in all_rows(orchard) for fruit in row})


def plain_shows(orchard, fruit):
    """All LOTs that show that the fruit stays."""
    hangings = dict(orchard)
    return [some for some in subsets(fruits_in(orchard)) if fruit in some
            and all(set(lot) & set(some) for each in some for lot in hangings[each])]


def plain_needs(orchard, fruit):
    """Those without which it stands in no row."""
    return [other for other in fruits_in(orchard) if other != fruit
            and fruit not in plain_comes([(each, () if each == other else lots) for each, lots in orchard])]


def turns(orchard, fruit):
    """All pairs (turn, LOT of those ahead of it), in all rows."""
    return [(row.index(fruit) + 1, tuple(sorted(row[:row.index(fruit)]))) for row in all_rows(orchard)]


class Comes(unittest.TestCase):
    def test_by_hand(self):
        self.assertEqual(comes(()), [])
        self.assertEqual(stays(()), [])
        self.assertEqual(comes(GROVE), ["fig", "lime", "nut"])
        self.assertEqual(stays(GROVE), ["kaki", "pear", "plum", "quince"])
        self.assertEqual(comes((("a", ()),)), [])
        self.assertEqual(stays((("a", ()),)), ["a"])
        self.assertEqual(comes((("a", ((),)),)), ["a"])
        self.assertEqual(stays((("a", ((),)),)), [])
        self.assertEqual(comes(RING), [])
        self.assertEqual(stays(RING), ["a", "b", "c"])
        self.assertEqual(comes((("a", ((),)), *RING[1:])), ["a", "b", "c"])

    def test_by_all_rows(self):
        for orchard in small_orchards(6, 150):
            coming = plain_comes(orchard)
            self.assertEqual(comes(orchard), coming)
            self.assertEqual(stays(orchard), [fruit for fruit in fruits_in(orchard) if fruit not in coming])
            for row in all_rows(orchard):
                self.assertEqual(sorted(row), coming)

    def test_manners(self):
        for function in (comes, stays):
            check_manners(self, function, {"orchard": in_lists(GROVE)})
            check_manners(self, function, {"orchard": in_lists(RING)})
            check_manners(self, function, {"orchard": []})


class ShowsStay(unittest.TestCase):
    def test_by_hand(self):
        for fruit, thing, shown in [
                ("kaki", ("kaki",), True), ("plum", ("plum", "quince"), True), ("quince", ("plum", "quince"), True),
                ("plum", ("plum",), False), ("quince", ("quince",), False), ("pear", ("kaki", "pear", "plum", "quince"), True),
                ("pear", ("kaki", "pear"), False), ("kaki", ("kaki", "pear"), False), ("kaki", ("plum", "quince"), False),
                ("fig", ("fig",), False), ("fig", ("fig", "kaki"), False), ("lime", ("kaki", "lime"), False),
                ("kaki", (), False), ("apple", ("apple",), False), ("apple", (), False), ("", ("",), False),
                ("apple", ("kaki",), False), ("kaki", ("apple", "kaki"), False)]:
            self.assertIs(shows_stay(GROVE, fruit, thing), shown, (fruit, thing))
        for fruit in "abc":
            self.assertIs(shows_stay(RING, fruit, ("a", "b", "c")), True)
            self.assertIs(shows_stay(RING, fruit, ("a", "b")), False)

    def test_all_lots_of_all_small_orchards(self):
        for orchard in small_orchards(16, 60):
            fruits = fruits_in(orchard)
            for fruit in [*fruits, "x"]:
                shown = plain_shows(orchard, fruit)
                for thing in subsets([*fruits, "x"]):
                    self.assertIs(shows_stay(orchard, fruit, thing), thing in shown)

    def test_what_stays_is_shown_and_nothing_else(self):
        for orchard in small_orchards(26, 100):
            for fruit in stays(orchard):
                self.assertIs(shows_stay(orchard, fruit, tuple(stays(orchard))), True)
            for fruit in comes(orchard):
                self.assertEqual([some for some in subsets(fruits_in(orchard)) if shows_stay(orchard, fruit, some)], [])

    def test_things_of_any_kind(self):
        orchard = (("a", ()), ("ab", ()), ("b", (("a",),)), ("c", ((),)))
        sequences = [each for size in range(4) for each in itertools.product(["a", "ab", "b", "c", "", "A", 1], repeat=size)]
        things = [*any_things(), *sequences, *map(list, sequences), *all_nested(("a",), range(10)),
                  *all_nested(("a", "b"), range(10)), "b", "ab"]
        for fruit in ["a", "ab", "b", "c", "x", ""]:
            shown = plain_shows(orchard, fruit)
            for thing in things:
                told = shows_stay(orchard, fruit, thing)
                self.assertIs(told, isinstance(thing, tuple) and thing in shown, (fruit, thing))
                self.assertIs(shows_stay(in_lists(orchard), fruit, thing), told)

    def test_manners(self):
        check_manners(self, shows_stay, {"orchard": in_lists(GROVE), "fruit": "plum", "thing": ("plum", "quince")})
        check_manners(self, shows_stay, {"orchard": in_lists(GROVE), "fruit": "plum", "thing": ["plum", "quince"]})
        self.assertIs(shows_stay(GROVE, thing=("plum", "quince"), fruit="plum"), True)
        self.assertIs(shows_stay(GROVE, thing=["plum", "quince"], fruit="plum"), False)


class Needs(unittest.TestCase):
    def test_by_hand(self):
        self.assertEqual(needs(GROVE, "fig"), [])
        self.assertEqual(needs(GROVE, "lime"), ["fig"])
        self.assertEqual(needs(GROVE, "nut"), ["fig", "lime"])
        orchard = made([("a", [[]]), ("b", [[]]), ("c", [["a"], ["b"]]), ("d", [["c", "b"]]), ("e", [["d", "a"], ["c", "b"]])])
        self.assertEqual(needs(orchard, "c"), [])
        self.assertEqual(needs(orchard, "d"), ["b", "c"])
        self.assertEqual(needs(orchard, "e"), ["b", "c"])

    def test_by_all_rows(self):
        for orchard in small_orchards(36, 100):
            for fruit in plain_comes(orchard):
                self.assertEqual(needs(orchard, fruit), plain_needs(orchard, fruit))

    def test_manners(self):
        check_manners(self, needs, {"orchard": in_lists(GROVE), "fruit": "nut"})
        check_manners(self, needs, {"orchard": in_lists(GROVE), "fruit": "fig"})


class Turns(unittest.TestCase):
    def test_soonest_by_hand(self):
        check_same(self, soonest(GROVE, "fig"), (1, ()))
        check_same(self, soonest(GROVE, "lime"), (2, ("fig",)))
        check_same(self, soonest(GROVE, "nut"), (3, ("fig", "lime")))
        orchard = made([("a", [["c"]]), ("b", [[]]), ("c", [[]]), ("d", [["a"], ["b", "c"]]), ("e", [["d"], ["a", "b", "c"]])])
        check_same(self, soonest(orchard, "d"), (3, ("a", "c")))
        check_same(self, soonest(orchard, "e"), (4, ("a", "b", "c")))
        check_same(self, soonest((("a", ((),)),), "a"), (1, ()))

    def test_the_first_of_several_lots_as_tuples_rise(self):
        orchard = made([("z", [["b", "c"], ["a", "d"], ["c", "d"]]), ("a", [[]]), ("b", [[]]), ("c", [[]]), ("d", [[]])])
        check_same(self, soonest(orchard, "z"), (3, ("a", "d")))
        orchard = made([("z", [["c"], ["aa", "ab"]]), ("aa", [[]]), ("ab", [[]]), ("b", [[]]), ("c", [["b"]])])
        check_same(self, soonest(orchard, "z"), (3, ("aa", "ab")))

    def test_latest_by_hand(self):
        self.assertEqual([latest(GROVE, fruit) for fruit in ("fig", "lime", "nut")], [1, 2, 3])
        orchard = made([("a", [[]]), ("b", [[]]), ("c", [["a"], ["b"]]), ("d", [["a"]]), ("e", [])])
        self.assertEqual([latest(orchard, fruit) for fruit in "abcd"], [3, 4, 4, 4])

    def test_by_all_rows(self):
        for orchard in small_orchards(46, 200):
            for fruit in plain_comes(orchard):
                due = turns(orchard, fruit)
                check_same(self, soonest(orchard, fruit), min(due))
                self.assertEqual(latest(orchard, fruit), max(due)[0])

    def test_manners(self):
        for fruit in ("fig", "nut"):
            check_manners(self, soonest, {"orchard": in_lists(GROVE), "fruit": fruit})
            check_manners(self, latest, {"orchard": in_lists(GROVE), "fruit": fruit})


class Refused(unittest.TestCase):
    def test_no_fruit_of_any_text(self):
        for function in (needs, soonest, latest):
            for orchard in (GROVE, (), RING):
                for text in ANY_TEXTS:
                    check_refused(self, NoFruit, text, function, {"orchard": orchard, "fruit": text})
        self.assertEqual(NoFruit.__bases__, (LookupError,))

    def test_stays(self):
        for function in (needs, soonest, latest):
            for orchard in (GROVE, RING, (("a", ()),), (("a", (("b",),)), ("b", ()))):
                for fruit in stays(orchard):
                    check_refused(self, Stays, fruit, function, {"orchard": orchard, "fruit": fruit})
        self.assertEqual(Stays.__bases__, (RuntimeError,))


class Greatest(unittest.TestCase):
    def test_24_fruits(self):
        rng = random.Random(56)
        for round_ in range(8):
            rows = rng.choice([random_rows, coming_rows])(rng, list(GREATEST), 6, 6)
            orchard = made(rows)
            gone = []
            while ready := ready_by(orchard, gone):
                gone.extend(ready)
            self.assertEqual(comes(orchard), sorted(gone))
            self.assertEqual(stays(orchard), sorted(set(GREATEST) - set(gone)))
            for fruit in GREATEST:
                if fruit in gone:
                    self.check_one(orchard, fruit)
                else:
                    self.assertIs(shows_stay(orchard, fruit, tuple(stays(orchard))), True)

    def check_one(self, orchard, fruit):
        """By going on without it, and without each other one."""
        without = {}
        for barred in GREATEST:
            gone = []
            while ready := [each for each in ready_by(orchard, gone) if each != barred]:
                gone.extend(ready)
            without[barred] = gone
        self.assertEqual(latest(orchard, fruit), len(without[fruit]) + 1)
        due = [each for each in GREATEST if each != fruit and fruit not in without[each]]
        self.assertEqual(needs(orchard, fruit), due)

    def test_24_in_a_row_and_all_from_the_first_on(self):
        orchard = made([("a", [[]])] + [(fruit, [[ahead]]) for ahead, fruit in zip(GREATEST, GREATEST[1:])])
        self.assertEqual(needs(orchard, "x"), list(GREATEST[:-1]))
        self.assertEqual([latest(orchard, fruit) for fruit in GREATEST], list(range(1, 25)))
        self.assertEqual(soonest(orchard, "x"), (24, tuple(GREATEST[:-1])))
        orchard = made([(fruit, [[]]) for fruit in GREATEST])
        self.assertEqual([latest(orchard, fruit) for fruit in GREATEST], [24] * 24)
        self.assertEqual([soonest(orchard, fruit) for fruit in GREATEST], [(1, ())] * 24)

    def test_soonest_of_12(self):
        orchard = made([(fruit, [[]]) for fruit in TWELVE[1:]] + [("a", [TWELVE[1:7], TWELVE[2:8], "lkjihg", "bcdhkl"])])
        check_same(self, soonest(orchard, "a"), (7, tuple("bcdefg")))
        orchard = made([(fruit, [[]]) for fruit in TWELVE[:-1]] + [("l", [TWELVE[:-1]])])
        check_same(self, soonest(orchard, "l"), (12, tuple(TWELVE[:-1])))
        rng = random.Random(66)
        for round_ in range(6):
            orchard = made(coming_rows(rng, list(TWELVE), 6, 6))
            for fruit in comes(orchard):
                sets = [()]
                while not (due := [some for some in sets if fruit in ready_by(orchard, some)]):
                    sets = {tuple(sorted((*some, each))) for some in sets for each in ready_by(orchard, some)}
                check_same(self, soonest(orchard, fruit), (len(due[0]) + 1, min(due)))

    def test_soonest_of_two_told_side_by_side(self):
        one = made([(fruit, [[]]) for fruit in TWELVE[:-1]] + [("l", [TWELVE[:-1]])])
        both = side_by_side(one, called(one, dict(zip(TWELVE, GREATEST[12:]))))
        check_same(self, soonest(both, "x"), (12, tuple(GREATEST[12:-1])))
        check_same(self, soonest(in_tuples(both), "l"), (12, tuple(TWELVE[:-1])))
        check_same(self, soonest(both, "m"), (1, ()))


if __name__ == "__main__":
    unittest.main()
