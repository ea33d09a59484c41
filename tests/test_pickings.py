"""[15] and [1] (d): is_pickings, known, clash, shows_clash, is_of."""

import copy
import random
import unittest

from ripepicks.errors import NoFruit
from ripepicks.orchards import made
from ripepicks.pickings import clash, is_of, is_pickings, known, shows_clash
from tests.helper import (ANY_TEXTS, GREATEST, all_likings, all_nested, all_pickings, any_things, check_manners,
                          check_refused, check_same, coming_rows, fruits_in, in_lists, in_tuples, plain_pick, plain_ripe,
                          random_rows, some_unseen, subsets, variants)

PICKING = (("pear", "kaki", "nut", "lime", "fig"), ["lime", "nut", "fig", "pear"])
# By the first one the fig goes at once, by the second one it isn't ripe as the lime goes.
CLASHING = [(("fig", "lime"), ["fig", "lime"]), (("fig", "lime"), ["lime", "fig"])]
TEN = GREATEST[:10]


def is_told_name(thing):
    """Whether it's a NAME."""
    return type(thing) is str and 1 <= len(thing) <= 8 and set(thing) <= set("abcdefghijklmnopqrstuvwxyz")


def plain_is_pickings(thing):
    """Each clause of [15]."""
    if type(thing) is not list or not thing:
        return False
    for each in thing:
        if type(each) is not tuple or len(each) != 2 or type(each[0]) is not tuple or type(each[1]) is not list:
            return False
        liking, row = each
        if not all(map(is_told_name, [*liking, *row])) or len(set(liking)) < len(liking) or len(set(row)) < len(row):
            return False
        if not set(row) <= set(liking) or set(liking) != set(thing[0][0]):
            return False
    return True


def plain_known(picking, fruit):
    """Each clause of [15], place by place."""
    liking, row = picking
    if fruit not in row:
        return (None, tuple(sorted(row)))
    not_by = None
    for at in range(row.index(fruit)):
        if liking.index(row[at]) > liking.index(fruit):
            not_by = tuple(sorted(row[:at]))
    return (tuple(sorted(row[:row.index(fruit)])), not_by)


def all_clashes(pickings):
    """All triples that show a clash, the first one first."""
    found = []
    for fruit in sorted(pickings[0][0]):
        told = [plain_known(picking, fruit) for picking in pickings]
        for one, (by, ignored) in enumerate(told):
            for other, (passed, not_by) in enumerate(told):
                if by is not None and not_by is not None and set(by) <= set(not_by):
                    found.append((fruit, one, other))
    return found


def seen_pickings(rng, orchard, many):
    """So many PICKINGs of the ORCHARD."""
    fruits = fruits_in(orchard)
    likings = [tuple(rng.sample(fruits, len(fruits))) for each in range(many)]
    return [(liking, plain_pick(orchard, liking)) for liking in likings]


class IsPickings(unittest.TestCase):
    def test_by_hand(self):
        bare = ((), [])
        for thing in [[PICKING], [PICKING, PICKING], [bare], [bare, bare], [(("a",), [])], [(("a",), ["a"])],
                      [(("a", "b"), []), (("b", "a"), ["b"]), (("a", "b"), ["b", "a"])], CLASHING,
                      [(("a" * 8, "z"), ["z"])]]:
            self.assertIs(is_pickings(thing), True)
            self.assertIs(is_pickings(in_lists(thing)), False)
            self.assertIs(is_pickings(in_tuples(thing)), False)
            self.assertIs(is_pickings(tuple(thing)), False)
        for thing in [[], PICKING, [bare, (("a",), [])], [(("a",), ["b"])], [(("a",), ["a", "a"])], [(("a", "a"), [])],
                      [(("A",), [])], [(("a" * 9,), [])], [(("",), [])], [((1,), [])], [((1,), [1])], [("ab", ["a"])],
                      [(("a", "b"), "ab")], [(("a", "b"), []), (("a", "c"), [])], [(("a",), [], [])], [((),)],
                      [PICKING, None], [PICKING, [*PICKING]], [(["a"], ["a"])], [(("a",), ("a",))]]:
            self.assertIs(is_pickings(thing), False, thing)

    def test_things_of_any_kind(self):
        for thing in [*any_things(), *all_nested(PICKING, range(2, 9)), *all_nested([PICKING], range(1, 8))]:
            self.assertIs(is_pickings(thing), plain_is_pickings(thing))

    def test_variants(self):
        for told in [[PICKING], [PICKING, (PICKING[0][::-1], [])], CLASHING, [((), [])], [(("b", "a"), ["a"])] * 2]:
            for thing in variants(told):
                self.assertIs(is_pickings(thing), plain_is_pickings(thing), thing)

    def test_all_of_three_fruits(self):
        every = all_pickings("abc")
        self.assertIs(is_pickings(every), True)
        for one in every:
            self.assertIs(is_pickings([one]), True)
        self.assertIs(is_pickings([*every, *all_pickings("ab")]), False)

    def test_whatever_its_size(self):
        names = tuple(one + other for one in GREATEST for other in GREATEST)
        self.assertIs(is_pickings([(names, list(names[::-1]))] * 60), True)
        self.assertIs(is_pickings([(names, list(names[::-1])), ((*names, "aa"), [])]), False)

    def test_manners(self):
        check_manners(self, is_pickings, {"thing": copy.deepcopy([PICKING])})
        check_manners(self, is_pickings, {"thing": [[list(PICKING[0]), list(PICKING[1])]]})


class Known(unittest.TestCase):
    def test_by_hand(self):
        # None that is liked less than the fig goes ahead of it; the last one that is liked less than the pear is the fig.
        for fruit, due in [("lime", ((), None)), ("nut", (("lime",), ())), ("fig", (("lime", "nut"), None)),
                           ("pear", (("fig", "lime", "nut"), ("lime", "nut"))), ("kaki", (None, ("fig", "lime", "nut", "pear")))]:
            check_same(self, known(PICKING, fruit), due)
        check_same(self, known((("a",), []), "a"), (None, ()))
        check_same(self, known((("a",), ["a"]), "a"), ((), None))
        check_same(self, known((("b", "a"), ["a", "b"]), "b"), (("a",), ()))
        check_same(self, known((("a", "b"), ["a", "b"]), "b"), (("a",), None))

    def test_the_last_one_that_is_liked_less(self):
        picking = (("e", "a", "b", "d", "c"), ["d", "c", "b", "a", "e"])
        check_same(self, known(picking, "a"), (("b", "c", "d"), ("c", "d")))
        check_same(self, known((("b", "d", "a", "c"), ["d", "c", "b", "a"]), "a"), (("b", "c", "d"), ("d",)))

    def test_nothing_else_is_known(self):
        for unseen in some_unseen():
            for picking in all_pickings(unseen.names):
                orchards = unseen.with_all([picking])
                self.assertGreater(len(orchards), 0)
                for fruit in unseen.names:
                    by, not_by = known(picking, fruit)
                    for gone in subsets([name for name in unseen.names if name != fruit]):
                        ripe = {plain_ripe(dict(orchard)[fruit], gone) for orchard in orchards}
                        self.assertIs(by is not None and set(by) <= set(gone), ripe == {True})
                        self.assertIs(not_by is not None and set(gone) <= set(not_by), ripe == {False})

    def test_no_fruit(self):
        for text in [*ANY_TEXTS, "zz"]:
            check_refused(self, NoFruit, text, known, {"picking": PICKING, "fruit": text})
            check_refused(self, NoFruit, text, known, {"picking": ((), []), "fruit": text})
        self.assertEqual(NoFruit.__bases__, (LookupError,))

    def test_manners(self):
        for fruit in PICKING[0]:
            check_manners(self, known, {"picking": (list(PICKING[0]), list(PICKING[1])), "fruit": fruit})


class Clashes(unittest.TestCase):
    def test_by_hand(self):
        check_same(self, clash(CLASHING), ("fig", 0, 1))
        check_same(self, clash(CLASHING[::-1]), ("fig", 1, 0))
        check_same(self, clash([CLASHING[1], CLASHING[1], CLASHING[0]]), ("fig", 2, 0))
        for pickings in [[PICKING], [PICKING, PICKING], [((), [])], [((), []), ((), [])], CLASHING[:1], CLASHING[1:] * 2]:
            self.assertIs(clash(pickings), None)

    def test_fruits_rise_ahead_of_numbers(self):
        pickings = [(("b", "a"), ["b", "a"]), (("b", "a"), ["a", "b"]), (("a", "b"), ["b", "a"])]
        check_same(self, clash(pickings), ("a", 1, 2))
        self.assertEqual(all_clashes(pickings), [("a", 1, 2), ("b", 0, 1), ("b", 2, 1)])

    def test_just_where_no_orchard_has_them(self):
        for unseen in some_unseen():
            for pickings in unseen.samples(15, 1500):
                found = all_clashes(pickings)
                told = clash(pickings)
                check_same(self, told, found[0] if found else None)
                self.assertIs(told is None, bool(unseen.with_all(pickings)))

    def test_each_two_are_enough(self):
        unseen = some_unseen()[3]
        clashing = 0
        for pickings in unseen.samples(25, 1500):
            two = [clash([one, other]) for one in pickings for other in pickings]
            self.assertIs(clash(pickings) is None, two == [None] * len(two))
            clashing += clash(pickings) is not None
        self.assertGreater(clashing, 500)

    def test_shows_clash_of_each_triple(self):
        rng = random.Random(35)
        for unseen in some_unseen():
            for pickings in unseen.samples(45, 300):
                if rng.random() < 0.1:
                    found = all_clashes(pickings)
                    for fruit in [*unseen.names, "zz"]:
                        for one in range(-2, len(pickings) + 1):
                            for other in range(-2, len(pickings) + 1):
                                triple = (fruit, one, other)
                                self.assertIs(shows_clash(pickings, triple), triple in found)

    def test_shows_clash_of_things_of_any_kind(self):
        self.assertIs(shows_clash(CLASHING, ("fig", 0, 1)), True)
        three = [CLASHING[1], CLASHING[1], CLASHING[0]]
        for due in [("fig", 2, 0), ("fig", 2, 1)]:
            self.assertIs(shows_clash(three, due), True)
            self.assertIs(shows_clash(three, list(due)), False)
        for thing in [("fig", False, True), ("fig", 0, True), ("fig", False, 1), ("lime", 0, 1), ("fig", 1, 0), ("fig", 0, -1),
                      ("fig", -2, 1), ("fig", 0, 2), ("fig", "0", "1"), ("fig", None, 1), (None, 0, 1), (["fig"], 0, 1),
                      ("fig", 0), ("fig", 0, 1, 1), ("fig", (0,), 1), "fig", ("fig", 0, 10 ** 30), ("fig", -10 ** 30, 1)]:
            self.assertIs(shows_clash(CLASHING, thing), False, thing)
        for pickings in (CLASHING, three, [((), [])]):
            for thing in [*any_things(), *variants(("fig", 0, 1)), *all_nested(("fig", 0, 1), range(1, 10))]:
                plain = type(thing) is tuple and list(map(type, thing)) == [str, int, int]
                self.assertIs(shows_clash(pickings, thing), plain and thing in all_clashes(pickings), thing)

    def test_manners(self):
        for pickings in (CLASHING, [PICKING, PICKING], [((), [])]):
            check_manners(self, clash, {"pickings": in_lists(pickings)})
            check_manners(self, shows_clash, {"pickings": in_lists(pickings), "thing": ("fig", 0, 1)})
            check_manners(self, shows_clash, {"pickings": in_lists(pickings), "thing": ["fig", 0, 1]})


class IsOf(unittest.TestCase):
    def test_by_hand(self):
        orchard = made([("fig", [[]]), ("lime", [[], ["fig"]])])
        self.assertIs(is_of(CLASHING[:1], orchard), True)
        self.assertIs(is_of(CLASHING, orchard), False)
        self.assertIs(is_of(CLASHING[1:], orchard), False)
        self.assertIs(is_of([((), [])], ()), True)
        self.assertIs(is_of([(("a",), [])], (("a", ()),)), True)
        self.assertIs(is_of([(("a",), ["a"])], (("a", ()),)), False)

    def test_all_orchards(self):
        rng = random.Random(55)
        for unseen in some_unseen():
            for pickings in unseen.samples(65, 40):
                if len(pickings) != 2 or rng.random() < 0.01:
                    having = unseen.with_all(pickings)
                    for orchard in unseen.orchards:
                        self.assertIs(is_of(pickings, orchard), orchard in having)

    def test_manners(self):
        orchard = made([("fig", [[]]), ("lime", [[], ["fig"]])])
        for pickings in (CLASHING, CLASHING[:1]):
            check_manners(self, is_of, {"pickings": in_lists(pickings), "orchard": in_lists(orchard)})


class Greatest(unittest.TestCase):
    def test_ten_fruits_six_pickings(self):
        rng = random.Random(75)
        clashing = 0
        for round_ in range(40):
            orchard = made(rng.choice([random_rows, coming_rows])(rng, list(TEN), 6, 6))
            pickings = seen_pickings(rng, orchard, 6)
            self.assertIs(is_pickings(pickings), True)
            self.assertIs(clash(pickings), None)
            self.assertIs(is_of(pickings, orchard), True)
            for picking in pickings:
                for fruit in TEN:
                    check_same(self, known(picking, fruit), plain_known(picking, fruit))
            liking, row = pickings[rng.randrange(6)]
            pickings[rng.randrange(6)] = (liking, rng.sample(TEN, rng.randint(0, 10)))
            found = all_clashes(pickings)
            check_same(self, clash(pickings), found[0] if found else None)
            self.assertTrue(all(shows_clash(pickings, triple) for triple in found))
            clashing += bool(found)
        self.assertGreater(clashing, 20)

    def test_four_fruits_24_pickings(self):
        rng = random.Random(85)
        for round_ in range(40):
            orchard = made(coming_rows(rng, list("abcd"), 4, 3))
            pickings = [(liking, plain_pick(orchard, liking)) for liking in all_likings(orchard)]
            rng.shuffle(pickings)
            self.assertIs(clash(pickings), None)
            self.assertIs(is_of(pickings, orchard), True)
            pickings[23] = (pickings[23][0], rng.sample("abcd", rng.randint(0, 4)))
            found = all_clashes(pickings)
            check_same(self, clash(pickings), found[0] if found else None)

    def test_is_of_any_number_of_lots(self):
        # All but some from the first on wait for any four: with three ahead of them none of them goes.
        for first, row in [("adg", "gda"), ("adgi", "igdajhfecb")]:
            rows = []
            for fruit in TEN:
                others = [name for name in TEN if name != fruit]
                rows.append((fruit, [lot for lot in subsets(others) if len(lot) == (0 if fruit in first else 4)]))
            orchard = made(rows)
            liking = tuple(TEN[::-1])
            self.assertIs(is_of([(liking, list(row))] * 6, orchard), True)
            self.assertIs(is_of([(liking, list(row))] * 5 + [(liking, list(row[:-1]))], orchard), False)
            self.assertIs(is_of([(liking, list(TEN))] * 6, orchard), False)


if __name__ == "__main__":
    unittest.main()
