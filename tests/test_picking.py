"""[7]: is_liking, pick, passed_by, turn_of."""

import itertools
import random
import unittest

from ripepicks.errors import NoFruit
from ripepicks.orchards import made
from ripepicks.picking import is_liking, passed_by, pick, turn_of
from tests.helper import (ANY_TEXTS, GREATEST, GROVE, LIKING, all_likings, all_nested, any_things, check_manners,
                          check_refused, check_same, coming_rows, fruits_in, in_lists, plain_pick, random_rows, ready_by,
                          small_orchards)


class IsLiking(unittest.TestCase):
    def test_by_hand(self):
        self.assertIs(is_liking((), ()), True)
        self.assertIs(is_liking((), []), False)
        self.assertIs(is_liking((), ("a",)), False)
        self.assertIs(is_liking(GROVE, LIKING), True)
        self.assertIs(is_liking(GROVE, list(LIKING)), False)
        self.assertIs(is_liking(GROVE, LIKING[1:]), False)
        self.assertIs(is_liking(GROVE, (*LIKING, "plum")), False)
        self.assertIs(is_liking(GROVE, (*LIKING, "fig")), False)
        self.assertIs(is_liking(GROVE, (*LIKING[1:], "fig")), False)
        self.assertIs(is_liking(GROVE, (*LIKING[1:], "plum")), False)
        self.assertIs(is_liking(GROVE, ()), False)

    def test_things_of_any_kind(self):
        orchards = [(), (("a", ()),), (("a", ((),)), ("b", ())), (("a", ()), ("ab", (("a",),)), ("b", ()))]
        parts = ["a", "ab", "b", "", "A", 0, 1, True, None, (), ("a",), ["a"]]
        sequences = [each for size in range(4) for each in itertools.product(parts, repeat=size)]
        things = [*any_things(), *sequences, *map(list, sequences), "a", "ab", "b", (("a", "ab", "b"),),
                  *all_nested(("a",), range(10)), *all_nested(("a", "b"), range(10))]
        for orchard in orchards:
            likings = all_likings(orchard)
            for thing in things:
                told = is_liking(orchard, thing)
                self.assertIs(told, thing in likings, (orchard, thing))
                self.assertIs(is_liking(in_lists(orchard), thing), told)

    def test_manners(self):
        check_manners(self, is_liking, {"orchard": in_lists(GROVE), "thing": LIKING})
        check_manners(self, is_liking, {"orchard": in_lists(GROVE), "thing": list(LIKING)})
        self.assertIs(is_liking(thing=LIKING, orchard=GROVE), True)


class Pick(unittest.TestCase):
    def test_by_hand(self):
        self.assertEqual(pick((), ()), [])
        self.assertEqual(passed_by((), ()), [])
        self.assertEqual(pick((("a", ()), ("b", (("a",),))), ("b", "a")), [])
        check_same(self, pick(GROVE, LIKING), ["lime", "nut", "fig", "pear"])
        check_same(self, pick(GROVE, ("fig", "kaki", "lime", "nut", "pear")), ["fig", "lime", "nut", "pear"])
        check_same(self, pick(GROVE, ("lime", "fig", "pear", "nut", "kaki")), ["lime", "fig", "nut", "pear"])
        check_same(self, passed_by(GROVE, LIKING), [("lime", ["fig"]), ("nut", ["fig"]), ("fig", []), ("pear", [])])
        check_same(self, passed_by(GROVE, ("lime", "fig", "pear", "nut", "kaki")),
                   [("lime", ["fig"]), ("fig", ["nut"]), ("nut", []), ("pear", [])])

    def test_others_that_were_ripe_rise(self):
        orchard = made([("a", [[]]), ("b", [[]]), ("c", [["b"]]), ("d", [[]])])
        check_same(self, passed_by(orchard, ("d", "b", "c", "a")), [("d", ["a", "b"]), ("b", ["a"]), ("c", ["a"]), ("a", [])])

    def test_all_likings_of_small_orchards(self):
        for orchard in small_orchards(7, 60):
            for liking in all_likings(orchard):
                row = plain_pick(orchard, liking)
                check_same(self, pick(orchard, liking), row)
                due = [(fruit, [each for each in ready_by(orchard, row[:at]) if each != fruit]) for at, fruit in enumerate(row)]
                check_same(self, passed_by(orchard, liking), due)
                for fruit in liking:
                    check_same(self, turn_of(orchard, liking, fruit), row.index(fruit) + 1 if fruit in row else None)

    def test_turn_by_hand(self):
        check_same(self, [turn_of(GROVE, LIKING, fruit) for fruit in fruits_in(GROVE)], [3, None, 1, 2, 4])

    def test_no_fruit(self):
        for text in ANY_TEXTS:
            check_refused(self, NoFruit, text, turn_of, {"orchard": GROVE, "liking": LIKING, "fruit": text})
            check_refused(self, NoFruit, text, turn_of, {"orchard": (), "liking": (), "fruit": text})
        self.assertEqual(NoFruit.__bases__, (LookupError,))

    def test_manners(self):
        for function in (pick, passed_by):
            check_manners(self, function, {"orchard": in_lists(GROVE), "liking": list(LIKING)})
            check_manners(self, function, {"orchard": [], "liking": []})
        for fruit in ("pear", "kaki"):
            check_manners(self, turn_of, {"orchard": in_lists(GROVE), "liking": list(LIKING), "fruit": fruit})

    def test_24_fruits(self):
        rng = random.Random(17)
        for round_ in range(30):
            orchard = made(rng.choice([random_rows, coming_rows])(rng, list(GREATEST), 6, 6))
            liking = tuple(rng.sample(GREATEST, 24))
            row = plain_pick(orchard, liking)
            self.assertIs(is_liking(orchard, liking), True)
            self.assertEqual(pick(orchard, liking), row)
            self.assertEqual([turn_of(orchard, liking, fruit) for fruit in row], list(range(1, len(row) + 1)))
            told = passed_by(orchard, liking)
            self.assertEqual([sorted([fruit, *passed]) for fruit, passed in told],
                             [ready_by(orchard, row[:at]) for at in range(len(row))])
        everything = made([(fruit, [[]]) for fruit in GREATEST])
        self.assertEqual(pick(everything, liking), list(liking))


if __name__ == "__main__":
    unittest.main()
