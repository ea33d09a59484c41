"""[4]: is_lot, is_within, least_lots, meeting."""

import itertools
import random
import unittest

from ripepicks.lots import is_lot, is_within, least_lots, meeting
from tests.helper import all_nested, any_things, check_manners, families, plain_least, plain_meeting, subsets

NAMES = ["a", "z", "ab", "abcdefgh", "zzzzzzzz", "pear", "type"]
NO_NAMES = ["", "abcdefghi", "A", "aB", "Z", "a1", "1", "a b", " a", "a ", "a\n", "\na", "\n", "a_b", "-", "a,b", "`",
            "{", "\u00e9", "\u00df", "a\u0301", "\u0430", "\uff41", "\u00aa", "\x00", "a\x00"]


class IsLot(unittest.TestCase):
    def test_lots(self):
        for thing in [(), ("a",), ("a", "b"), ("a", "aa", "ab", "b"), ("abcdefgh", "b", "zzzzzzzz")]:
            self.assertIs(is_lot(thing), True, thing)

    def test_all_orders_of_some_names(self):
        for size in range(4):
            for thing in itertools.product("abc", repeat=size):
                self.assertIs(is_lot(thing), thing == tuple(sorted(set(thing))), thing)

    def test_names_and_texts_that_are_just_none(self):
        for name in NAMES:
            self.assertIs(is_lot((name,)), True, name)
        for text in NO_NAMES:
            self.assertIs(is_lot((text,)), False, text)
            self.assertIs(is_lot(tuple(sorted(["m", text]))), False, text)

    def test_things_of_any_kind(self):
        for thing in any_things():
            self.assertIs(is_lot(thing), False, thing)
        for thing in [("a", 1), (1, "a"), ("a", None), (True, False), (1, 2), ("a", ["b"]), (("a",), ("b",)), ("a", ())]:
            self.assertIs(is_lot(thing), False, thing)
        for thing in all_nested(("a", "b"), range(1, 10)):
            self.assertIs(is_lot(thing), False, thing)

    def test_lists_are_no_lots(self):
        for thing in [[], ["a"], ["a", "b"], (["a"],)]:
            self.assertIs(is_lot(thing), False, thing)

    def test_any_size(self):
        many = tuple("".join(letters) for letters in itertools.product("abcdefg", repeat=4))
        self.assertIs(is_lot(many), True)
        self.assertIs(is_lot((*many, many[-1])), False)

    def test_by_name(self):
        self.assertIs(is_lot(thing=("a",)), True)
        self.assertIs(is_lot(thing=["a"]), False)


class IsWithin(unittest.TestCase):
    def test_all_pairs(self):
        for one, other in itertools.product(subsets("abcd"), repeat=2):
            self.assertIs(is_within(one, other), set(one) <= set(other))

    def test_whole_names_count(self):
        self.assertIs(is_within(("a",), ("ab",)), False)
        self.assertIs(is_within(("ab",), ("a", "b")), False)

    def test_manners(self):
        check_manners(self, is_within, {"one": ["a", "c"], "other": ("a", "b", "c")})
        check_manners(self, is_within, {"one": ("a", "c"), "other": ["a", "b"]})


class LeastLots(unittest.TestCase):
    def test_by_hand(self):
        self.assertEqual(least_lots([]), [])
        self.assertEqual(least_lots([()]), [()])
        self.assertEqual(least_lots([("a", "b"), (), ("c",), ()]), [()])
        self.assertEqual(least_lots([("b",), ("a", "c"), ("a", "b"), ("b",), ("a", "c", "d")]), [("a", "c"), ("b",)])
        self.assertEqual(least_lots([("a", "b", "c"), ("b", "c"), ("a", "b"), ("a", "c")]),
                         [("a", "b"), ("a", "c"), ("b", "c")])
        self.assertEqual(least_lots([("ab",), ("a", "b")]), [("a", "b"), ("ab",)])

    def test_all_families_of_three_names_in_any_order(self):
        rng = random.Random(4)
        for family in families("abc"):
            twice = family + family[::2]
            rng.shuffle(twice)
            self.assertEqual(least_lots(twice), plain_least(family))

    def test_told_again(self):
        rng = random.Random(14)
        for round_ in range(200):
            lots = rng.choices(subsets("abcdef"), k=rng.randint(0, 12))
            least = least_lots(lots)
            self.assertEqual(least, plain_least(lots))
            self.assertEqual(least_lots(least), least)
            self.assertTrue(all(is_lot(lot) for lot in least))

    def test_manners(self):
        check_manners(self, least_lots, {"lots": [["a", "b"], ("c",), ["b", "c"], ("c",)]})
        check_manners(self, least_lots, {"lots": ((), ["c"])})
        check_manners(self, least_lots, {"lots": []})


class Meeting(unittest.TestCase):
    def test_none_and_a_bare_one(self):
        self.assertEqual(meeting([]), [()])
        self.assertEqual(meeting([()]), [])
        self.assertEqual(meeting([("a",), (), ("b",)]), [])
        self.assertEqual(meeting([(), ("a",)]), [])
        self.assertEqual(meeting([("a",), ()]), [])

    def test_by_hand(self):
        self.assertEqual(meeting([("a", "b")]), [("a",), ("b",)])
        self.assertEqual(meeting([("a", "b"), ("c",)]), [("a", "c"), ("b", "c")])
        self.assertEqual(meeting([("a", "b"), ("b", "c"), ("a", "c")]), [("a", "b"), ("a", "c"), ("b", "c")])
        self.assertEqual(meeting([("c", "d"), ("a", "d"), ("a", "b")]), [("a", "c"), ("a", "d"), ("b", "d")])
        self.assertEqual(meeting([("a", "b"), ("a",), ("a", "b", "c"), ("a",)]), [("a",)])

    def test_all_families_of_three_names_in_any_order(self):
        rng = random.Random(24)
        for family in families("abc"):
            twice = family + family[::2]
            rng.shuffle(twice)
            self.assertEqual(meeting(twice), plain_meeting(family))

    def test_six_lots_of_nine_names(self):
        rng = random.Random(34)
        names = ["a", "ab", "b", "cde", "d", "e", "fffff", "g", "zzzzzzzz"]
        for round_ in range(60):
            lots = [tuple(sorted(rng.sample(names, rng.randint(1, 5)))) for lot in range(6)]
            met = meeting(lots)
            self.assertEqual(met, plain_meeting(lots))
            self.assertEqual(meeting(met), least_lots(lots))

    def test_told_again_whatever_its_size(self):
        lots = [("a", "b", "c", "d"), ("e", "f", "g", "h"), ("i", "j", "k", "l"), ("m", "n", "o", "p"), ("q", "r", "s", "t"),
                ("u", "v", "w")]
        met = meeting(lots)
        self.assertEqual(met, sorted(itertools.product(*lots)))
        self.assertEqual(least_lots(met), met)
        random.Random(44).shuffle(met)
        self.assertEqual(meeting(met), lots)

    def test_manners(self):
        check_manners(self, meeting, {"lots": [["a", "b"], ("b", "c"), ["c", "d"]]})
        check_manners(self, meeting, {"lots": []})
        check_manners(self, meeting, {"lots": [[], ["a"]]})


if __name__ == "__main__":
    unittest.main()
