"""[5]: is_orchard, made, lots_of, is_ripe, ripe, gone_from, side_by_side, called."""

import copy
import itertools
import random
import unittest

from ripepicks.errors import BadFruit, BadLot, NoFruit, Twice
from ripepicks.lots import meeting
from ripepicks.orchards import called, gone_from, is_orchard, is_ripe, lots_of, made, ripe, side_by_side
from tests.helper import (ANY_TEXTS, GREATEST, all_nested, any_things, check_manners, families, in_lists, in_tuples,
                          plain_least, plain_orchard, plain_ripe, random_rows, subsets)

# The fig from the first on, the kaki never, the lime by the fig, the pear by fig and lime or by the kaki.
GROVE = (("fig", ((),)), ("kaki", ()), ("lime", (("fig",),)), ("pear", (("fig", "lime"), ("kaki",))))


def grove_rows():
    """What made takes for GROVE, out of order, with LOTs that aren't least and that stand twice."""
    return [("pear", [["lime", "fig"], ["kaki"], ["lime", "kaki"], ["kaki"]]), ("lime", [["fig"]]), ("kaki", []),
            ("fig", [["pear", "kaki"], []])]


def greatest_rows():
    """24 fruits, each by 6 lots of 6 others, none within another one."""
    rng = random.Random(3)
    rows = []
    for fruit in GREATEST:
        others = GREATEST.replace(fruit, "")
        rows.append((fruit, [rng.sample(others, 6) for lot in range(6)]))
    return rows


class IsOrchard(unittest.TestCase):
    def test_orchards(self):
        for thing in [(), GROVE, (("a", ()),), (("a", ((),)),), (("a", (("b",),)), ("b", (("a",),)))]:
            self.assertIs(is_orchard(thing), True, thing)

    def test_near_ones_are_none(self):
        for thing in [
                (("a", (("a",),)),), (("a", (("b",),)),), (("b", ()), ("a", ())), (("a", ()), ("a", ())), (("a",),), ("a", ()),
                (("a", (), ()),), (("a", ("b",)), ("b", ())), (("a", "b"), ("b", ())), (("A", ()),), (("", ()),),
                (("abcdefghi", ()),), ((1, ()),), ((None, ()),), (("a", None),), (("a", True),), ("ab", "cd"),
                (("a", (("b", "c"), ("b",))), ("b", ()), ("c", ())), (("a", (("b",), ("b", "c"))), ("b", ()), ("c", ())),
                (("a", ((), ("b",))), ("b", ())), (("a", ((), ())),), (("a", (("b",), ("b",))), ("b", ())),
                (("a", (("c",), ("b",))), ("b", ()), ("c", ())), (("a", (("c", "b"),)), ("b", ()), ("c", ())),
                (("a", (("b", "b"),)), ("b", ())), (("a", (("b", 1),)), ("b", ())), (("a", (("b", None),)), ("b", ()))]:
            self.assertIs(is_orchard(thing), False, thing)

    def test_just_so_many(self):
        # A fruit hangs in as many ways as there are families of the others, none within another: 2, 3, 6 of 0, 1, 2.
        for names, many in [("a", 2), ("ab", 9)]:
            hangings = [tuple(order) for family in families(names) for order in itertools.permutations(family)]
            things = itertools.product(hangings, repeat=len(names))
            self.assertEqual(sum(is_orchard(tuple(zip(names, hanging))) for hanging in things), many)
        hangings = [tuple(family) for family in families("abc")]
        rest = (("b", ()), ("c", ()))
        self.assertEqual(sum(is_orchard((("a", hanging), *rest)) for hanging in hangings), 6)

    def test_things_of_any_kind(self):
        for thing in any_things():
            self.assertIs(is_orchard(thing), False, thing)
        for thing in all_nested(GROVE, range(1, 7)):
            self.assertIs(is_orchard(thing), False, thing)
        for thing in all_nested(("b",), range(1, 6)):
            self.assertIs(is_orchard((("a", (thing,)), ("b", ()))), False, thing)
        for thing in all_nested(("b",), range(2, 7)):
            self.assertIs(is_orchard((("a", thing), ("b", ()))), False, thing)
        for thing in all_nested(("a", ()), range(1, 8)):
            self.assertIs(is_orchard((thing,)), False, thing)

    def test_lists_are_none(self):
        self.assertIs(is_orchard([]), False)
        self.assertIs(is_orchard(list(GROVE)), False)
        self.assertIs(is_orchard((["a", ()],)), False)
        self.assertIs(is_orchard((("a", []),)), False)
        self.assertIs(is_orchard((("a", [()]),)), False)
        self.assertIs(is_orchard((("a", ([],)),)), False)
        self.assertIs(is_orchard((("a", (["b"],)), ("b", ()))), False)

    def test_by_name_and_unchanged(self):
        self.assertIs(is_orchard(thing=GROVE), True)
        thing = in_lists(GROVE)
        before = copy.deepcopy(thing)
        self.assertIs(is_orchard(thing=thing), False)
        self.assertEqual(thing, before)

    def test_any_size(self):
        lots = meeting([("b", "c", "d"), ("e", "f", "g"), ("h", "i", "j"), ("k", "l", "m"), ("n", "o", "p")])
        orchard = made([("a", lots)] + [(fruit, []) for fruit in "bcdefghijklmnop"])
        self.assertEqual(len(lots_of(orchard, "a")), 3 ** 5)
        self.assertIs(is_orchard(orchard), True)
        self.assertEqual(made(orchard), orchard)


class Made(unittest.TestCase):
    def test_by_hand(self):
        self.assertEqual(made([]), ())
        self.assertEqual(made([("a", [])]), (("a", ()),))
        self.assertEqual(made([("a", [[]])]), (("a", ((),)),))
        self.assertEqual(made([("abcdefgh", [["a"]]), ("a", [])]), (("a", ()), ("abcdefgh", (("a",),))))
        self.assertEqual(made(grove_rows()), GROVE)

    def test_all_families_of_two_others(self):
        for family in families("bc"):
            rows = [("c", []), ("a", [list(reversed(lot)) for lot in reversed(family)]), ("b", [])]
            self.assertEqual(made(rows), (("a", tuple(plain_least(family))), ("b", ()), ("c", ())))

    def test_many(self):
        rng = random.Random(5)
        for round_ in range(200):
            rows = random_rows(rng, ["a", "b", "cc", "cd", "e", "zzzzzzzz"][:rng.randint(0, 6)], 6, 4)
            orchard = made(rows)
            self.assertEqual(orchard, plain_orchard(rows))
            self.assertIs(is_orchard(orchard), True)
            self.assertEqual(made(orchard), orchard)

    def test_bad_fruit(self):
        for text in ["", "A", "abcdefghi", "a1", "a ", "\u00e9", "a\n"]:
            self.check(BadFruit, 1, [("a", []), (text, []), ("b", [])])
            self.check(BadFruit, 0, [(text, []), (text, [])])
        self.check(BadFruit, 2, [("a", []), ("b", []), ("a", []), ("b", []), ("", [])])
        self.check(BadFruit, 1, [("a", []), ("a", [])])

    def test_bad_lot(self):
        for lots in [[["b", "b"]], [["a"]], [["d"]], [[""]], [["B"]], [["abcdefghi"]], [["b"], [], ["b", "c", "a"]],
                     [[], ["b", "c", "b"]], [["b"], ["b", "c", "d"]]]:
            self.check(BadLot, 1, [("b", []), ("a", lots), ("c", [["a"]])])
            self.check(BadLot, 0, [("a", lots), ("b", []), ("c", [["c"]])])
        self.check(BadLot, 2, [("a", [["b"], ["c"]]), ("b", [["a"]]), ("c", [["a", "a"]]), ("d", [["d"]])])

    def test_bad_fruit_goes_ahead_of_bad_lot(self):
        self.check(BadFruit, 2, [("a", [["a"]]), ("b", [["x"]]), ("B", [])])
        self.check(BadFruit, 1, [("a", [["a", "a"]]), ("a", [])])
        self.check(BadFruit, 0, [("", [["b", "b"]]), ("b", [["b"]])])
        self.check(BadFruit, 3, [("a", [["c"]]), ("b", []), ("c", [["zz"]]), ("b", [["b"]])])

    def test_manners(self):
        check_manners(self, made, {"rows": grove_rows()})
        check_manners(self, made, {"rows": []})

    def check(self, error, place, rows):
        for turned in (rows, in_lists(rows), in_tuples(rows)):
            before = copy.deepcopy(turned)
            with self.assertRaises(error) as caught:
                made(turned)
            self.assertIs(type(caught.exception), error)
            self.assertEqual(caught.exception.what, place)
            self.assertEqual(turned, before)


class Asked(unittest.TestCase):
    def test_lots_of(self):
        for fruit, lots in GROVE:
            self.assertEqual(lots_of(GROVE, fruit), lots)
            self.assertEqual(lots_of(in_lists(GROVE), fruit), lots)
            check_manners(self, lots_of, {"orchard": in_lists(GROVE), "fruit": fruit})

    def test_is_ripe_by_hand(self):
        self.assertIs(is_ripe(GROVE, "fig", []), True)
        self.assertIs(is_ripe(GROVE, "fig", ["fig"]), True)
        self.assertIs(is_ripe(GROVE, "kaki", []), False)
        self.assertIs(is_ripe(GROVE, "kaki", ["pear", "lime", "kaki", "fig"]), False)
        self.assertIs(is_ripe(GROVE, "lime", []), False)
        self.assertIs(is_ripe(GROVE, "lime", ["plum", "fig", "plum"]), True)
        self.assertIs(is_ripe(GROVE, "pear", ["fig"]), False)
        self.assertIs(is_ripe(GROVE, "pear", ["lime", "fig"]), True)
        self.assertIs(is_ripe(GROVE, "pear", ["pear", "kaki"]), True)

    def test_ripe_by_hand(self):
        self.assertEqual(ripe(GROVE, []), ["fig"])
        self.assertEqual(ripe(GROVE, ["fig"]), ["lime"])
        self.assertEqual(ripe(GROVE, ["kaki"]), ["fig", "pear"])
        self.assertEqual(ripe(GROVE, ["kaki", "fig"]), ["lime", "pear"])
        self.assertEqual(ripe(GROVE, ["plum", "lime", "fig", "plum"]), ["pear"])
        self.assertEqual(ripe(GROVE, ["plum", "fi"]), ["fig"])
        self.assertEqual(ripe((), ["fig"]), [])
        self.assertEqual(ripe((("a", ()), ("b", ())), ["a"]), [])

    def test_all_that_can_be_gone(self):
        rng = random.Random(15)
        names = ["a", "b", "c", "d", "e"]
        for round_ in range(40):
            orchard = made(random_rows(rng, names, 4, 3))
            for some in subsets([*names, "plum"]):
                gone = rng.sample(some, len(some))
                come = [fruit for fruit, lots in orchard if plain_ripe(lots, gone)]
                self.assertEqual(ripe(orchard, gone), [fruit for fruit in come if fruit not in gone])
                for fruit in names:
                    self.assertIs(is_ripe(orchard, fruit, gone), fruit in come)

    def test_no_fruit(self):
        for text in ANY_TEXTS:
            for orchard in (GROVE, in_lists(GROVE), ()):
                for ask in (lambda: lots_of(orchard, text), lambda: is_ripe(orchard, text, []),
                            lambda: is_ripe(orchard=orchard, fruit=text, gone=["fig", text, "kaki"])):
                    with self.assertRaises(NoFruit) as caught:
                        ask()
                    self.assertIs(type(caught.exception), NoFruit)
                    self.assertEqual(caught.exception.what, text)

    def test_manners(self):
        check_manners(self, is_ripe, {"orchard": in_lists(GROVE), "fruit": "pear", "gone": ["lime", "fig"]})
        check_manners(self, is_ripe, {"orchard": GROVE, "fruit": "pear", "gone": ("lime",)})
        check_manners(self, ripe, {"orchard": in_lists(GROVE), "gone": ["kaki", "plum"]})
        check_manners(self, ripe, {"orchard": [], "gone": []})


class GoneFrom(unittest.TestCase):
    def test_by_hand(self):
        self.assertEqual(gone_from(GROVE, []), GROVE)
        self.assertEqual(gone_from(GROVE, ["plum", "fi"]), GROVE)
        self.assertEqual(gone_from(GROVE, ["fig"]), (("kaki", ()), ("lime", ((),)), ("pear", (("kaki",), ("lime",)))))
        self.assertEqual(gone_from(GROVE, ["kaki"]), (("fig", ((),)), ("lime", (("fig",),)), ("pear", ((),))))
        self.assertEqual(gone_from(GROVE, ["lime", "plum", "fig", "fig"]), (("kaki", ()), ("pear", ((),))))
        self.assertEqual(gone_from(GROVE, ["pear", "lime", "kaki", "fig"]), ())
        self.assertEqual(gone_from((), ["fig"]), ())

    def test_lots_come_to_lie_within_others(self):
        orchard = made([("a", [["b", "c"], ["c", "d", "e"]]), ("b", []), ("c", []), ("d", []), ("e", [])])
        self.assertEqual(lots_of(gone_from(orchard, ["b"]), "a"), (("c",),))
        self.assertEqual(lots_of(gone_from(orchard, ["d", "e"]), "a"), (("c",),))
        self.assertEqual(lots_of(gone_from(orchard, ["d"]), "a"), (("b", "c"), ("c", "e")))

    def test_ripe_as_before(self):
        rng = random.Random(25)
        names = ["a", "b", "c", "d", "e"]
        for round_ in range(60):
            orchard = made(random_rows(rng, names, 4, 3))
            names_gone = rng.sample(names, rng.randint(0, 5))
            rest = gone_from(orchard, names_gone)
            self.assertIs(is_orchard(rest), True)
            self.assertEqual([fruit for fruit, lots in rest], [name for name in names if name not in names_gone])
            for gone in subsets([fruit for fruit, lots in rest]):
                self.assertEqual(ripe(rest, gone), ripe(orchard, [*gone, *names_gone]))

    def test_manners(self):
        check_manners(self, gone_from, {"orchard": in_lists(GROVE), "names": ["fig", "plum"]})
        check_manners(self, gone_from, {"orchard": in_lists(GROVE), "names": []})


class SideBySide(unittest.TestCase):
    def test_by_hand(self):
        other = (("apple", (("zz",),)), ("kiwi", ()), ("zz", ((),)))
        both = (("apple", (("zz",),)), GROVE[0], GROVE[1], ("kiwi", ()), GROVE[2], GROVE[3], ("zz", ((),)))
        self.assertEqual(side_by_side(GROVE, other), both)
        self.assertEqual(side_by_side(other, GROVE), both)
        self.assertIs(is_orchard(both), True)
        self.assertEqual(side_by_side(GROVE, ()), GROVE)
        self.assertEqual(side_by_side((), GROVE), GROVE)
        self.assertEqual(side_by_side((), ()), ())

    def test_twice(self):
        other = (("apple", ()), ("lime", ((),)), ("pear", ()), ("zz", ()))
        for one, two, fruit in [(GROVE, other, "lime"), (other, GROVE, "lime"), (GROVE, GROVE, "fig"),
                                (in_lists(GROVE), in_lists(other), "lime"), (GROVE, (("pear", ()),), "pear")]:
            with self.assertRaises(Twice) as caught:
                side_by_side(one, two)
            self.assertIs(type(caught.exception), Twice)
            self.assertEqual(caught.exception.what, fruit)

    def test_manners(self):
        check_manners(self, side_by_side, {"one": in_lists(GROVE), "other": [["apple", [["zz"]]], ["zz", []]]})


class Called(unittest.TestCase):
    def test_by_hand(self):
        names = {"fig": "pear", "kaki": "a", "lime": "fig", "pear": "abcdefgh"}
        self.assertEqual(called(GROVE, names), (("a", ()), ("abcdefgh", (("a",), ("fig", "pear"))), ("fig", (("pear",),)),
                                                ("pear", ((),))))
        self.assertEqual(called(GROVE, {fruit: fruit for fruit in names}), GROVE)
        self.assertEqual(called((), {}), ())

    def test_there_and_back(self):
        rng = random.Random(35)
        names = ["a", "b", "c", "d", "e"]
        for round_ in range(60):
            rows = random_rows(rng, names, 4, 3)
            new = dict(zip(names, rng.sample(["a", "b", "z", "y", "xx", "e", "ca"], 5)))
            told = called(made(rows), new)
            self.assertEqual(told, plain_orchard([(new[fruit], [[new[name] for name in lot] for lot in lots])
                                               for fruit, lots in rows]))
            self.assertIs(is_orchard(told), True)
            self.assertEqual(called(told, {name: fruit for fruit, name in new.items()}), made(rows))

    def test_manners(self):
        names = {"fig": "z", "kaki": "y", "lime": "x", "pear": "w"}
        check_manners(self, called, {"orchard": in_lists(GROVE), "names": names})


class Greatest(unittest.TestCase):
    def test_24_fruits_by_6_lots_of_6(self):
        rows = greatest_rows()
        orchard = made(rows)
        self.assertEqual(orchard, plain_orchard(rows))
        self.assertEqual([len(lots) for fruit, lots in orchard], [6] * 24)
        self.assertIs(is_orchard(orchard), True)
        rng = random.Random(45)
        for round_ in range(100):
            gone = rng.sample(GREATEST, rng.randint(0, 24))
            come = [fruit for fruit, lots in orchard if plain_ripe(lots, gone)]
            self.assertEqual(ripe(orchard, gone), [fruit for fruit in come if fruit not in gone])
            self.assertEqual([fruit for fruit in GREATEST if is_ripe(orchard, fruit, gone)], come)
            rest = [(fruit, [set(lot) - set(gone) for lot in lots]) for fruit, lots in orchard if fruit not in gone]
            self.assertEqual(gone_from(orchard, gone), plain_orchard(rest))
        for fruit, lots in rows:
            self.assertEqual(lots_of(orchard, fruit), tuple(plain_least(lots)))

    def test_12_and_12_side_by_side(self):
        rng = random.Random(55)
        one = made(random_rows(rng, list(GREATEST[0::2]), 6, 6))
        other = made(random_rows(rng, list(GREATEST[1::2]), 6, 6))
        both = side_by_side(one, other)
        self.assertEqual(both, tuple(sorted(one + other)))
        new = dict(zip(GREATEST, reversed(GREATEST)))
        self.assertEqual(side_by_side(called(one, new), called(other, new)), called(both, new))
        self.assertEqual(called(called(both, new), new), both)


if __name__ == "__main__":
    unittest.main()
