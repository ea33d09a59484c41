"""[16] and [1] (e): latest_hung, soonest_hung, ripe_by."""

import random
import unittest

from ripepicks.between import latest_hung, ripe_by, soonest_hung
from ripepicks.errors import Clash, NoFruit
from ripepicks.orchards import is_orchard, made
from ripepicks.pickings import clash, is_of, known
from tests.helper import (ANY_TEXTS, GREATEST, all_likings, check_manners, check_refused, check_same, coming_rows, in_lists,
                          plain_least, plain_pick, plain_ripe, random_rows, some_unseen, subsets)

PICKINGS = [(("pear", "kaki", "nut", "lime", "fig"), ["lime", "nut", "fig", "pear"]),
            (("fig", "kaki", "lime", "nut", "pear"), ["fig", "lime", "nut", "pear"])]
CLASHING = [(("fig", "lime"), ["fig", "lime"]), (("fig", "lime"), ["lime", "fig"])]
TEN = GREATEST[:10]


def others_of(names, fruit):
    """The names but this one."""
    return [name for name in names if name != fruit]


def plain_soonest(pickings):
    """Of each fruit the least ones of all LOTs of others that lie within no not_by."""
    rows = []
    for fruit in sorted(pickings[0][0]):
        not_by = [lot for lot in [known(picking, fruit)[1] for picking in pickings] if lot is not None]
        every = subsets(others_of(pickings[0][0], fruit))
        lots = [lot for lot in every if not any(set(lot) <= set(each) for each in not_by)]
        rows.append((fruit, tuple(plain_least(lots))))
    return tuple(rows)


def ripe_in(orchards, fruit, gone):
    """Whether the fruit is ripe in each of the ORCHARDs, in none, or neither."""
    ripe = {plain_ripe(dict(orchard)[fruit], others_of(gone, fruit)) for orchard in orchards}
    return {(True,): "yes", (False,): "no"}.get(tuple(ripe), "open")


class Between(unittest.TestCase):
    def test_by_hand(self):
        check_same(self, latest_hung(PICKINGS), (("fig", ((),)), ("kaki", ()), ("lime", ((),)), ("nut", (("lime",),)),
                                                 ("pear", (("fig", "lime", "nut"),))))
        # The nut wasn't ripe from the first on, the pear not by lime and nut; the kaki not even by all.
        check_same(self, soonest_hung(PICKINGS), (("fig", ((),)), ("kaki", ()), ("lime", ((),)),
                                                  ("nut", (("fig",), ("kaki",), ("lime",), ("pear",))),
                                                  ("pear", (("fig",), ("kaki",)))))

    def test_one_picking_alone(self):
        check_same(self, latest_hung([((), [])]), ())
        check_same(self, soonest_hung([((), [])]), ())
        for many in (1, 2):
            check_same(self, latest_hung([(("a",), [])] * many), (("a", ()),))
            check_same(self, soonest_hung([(("a",), [])] * many), (("a", ()),))
            check_same(self, latest_hung([(("a",), ["a"])] * many), (("a", ((),)),))
            check_same(self, soonest_hung([(("a",), ["a"])] * many), (("a", ((),)),))

    def test_the_bare_lot_where_nothing_is_known_against_it(self):
        pickings = [(("a", "b", "c"), ["a", "b", "c"])]
        check_same(self, latest_hung(pickings), (("a", ((),)), ("b", (("a",),)), ("c", (("a", "b"),))))
        check_same(self, soonest_hung(pickings), (("a", ((),)), ("b", ((),)), ("c", ((),))))

    def test_all_orchards_that_have_them(self):
        rng = random.Random(16)
        for unseen in some_unseen():
            for pickings in unseen.samples(26, 300):
                orchards = unseen.with_all(pickings)
                if orchards and (len(pickings) != 2 or rng.random() < 0.15):
                    self.check_between(unseen, pickings, orchards)

    def check_between(self, unseen, pickings, orchards):
        late, soon = latest_hung(pickings), soonest_hung(pickings)
        self.assertIn(late, orchards)
        self.assertIn(soon, orchards)
        for fruit in unseen.names:
            for gone in subsets(others_of(unseen.names, fruit)):
                due = ripe_in(orchards, fruit, gone)
                self.assertEqual(ripe_in([late, soon], fruit, gone), due)
                self.assertEqual(ripe_by(pickings, fruit, list(gone)), due)
        between = [orchard for orchard in unseen.orchards if self.lies_between(unseen, orchard, late, soon)]
        self.assertEqual(between, orchards)

    def lies_between(self, unseen, orchard, late, soon):
        for fruit in unseen.names:
            for gone in subsets(others_of(unseen.names, fruit)):
                rising = [plain_ripe(dict(each)[fruit], gone) for each in (late, orchard, soon)]
                if rising != sorted(rising):
                    return False
        return True

    def test_ten_fruits_six_pickings(self):
        rng = random.Random(36)
        for round_ in range(12):
            orchard = made(rng.choice([random_rows, coming_rows])(rng, list(TEN), 6, 6))
            likings = [tuple(rng.sample(TEN, 10)) for each in range(6)]
            self.check_greatest([(liking, plain_pick(orchard, liking)) for liking in likings], orchard)

    def test_four_fruits_24_pickings(self):
        rng = random.Random(46)
        for round_ in range(12):
            orchard = made(coming_rows(rng, list("abcd"), 4, 3))
            likings = rng.sample(all_likings(orchard), 24)
            self.check_greatest([(liking, plain_pick(orchard, liking)) for liking in likings], orchard)

    def check_greatest(self, pickings, orchard):
        late, soon = latest_hung(pickings), soonest_hung(pickings)
        for each in (late, orchard, soon):
            self.assertIs(is_orchard(each), True)
            self.assertIs(is_of(pickings, each), True)
        bys = {fruit: [known(picking, fruit)[0] for picking in pickings] for fruit in pickings[0][0]}
        due = [(fruit, tuple(plain_least([by for by in bys[fruit] if by is not None]))) for fruit in sorted(bys)]
        check_same(self, late, tuple(due))
        check_same(self, soon, plain_soonest(pickings))

    def test_many_lots_between(self):
        # All but one are ripe from the first on; that one isn't by any of six lots, but by each with one more.
        pickings = []
        for lot in ["bcd", "efg", "hij", "beh", "cfi", "dgj"]:
            first, *rest = [name for name in "bcdefghij" if name not in lot]
            pickings.append(((*lot, "a", first, *rest), [*lot, first, "a", *rest]))
        told = soonest_hung(pickings)
        check_same(self, told, plain_soonest(pickings))
        self.assertGreater(len(dict(told)["a"]), 12)
        self.assertIs(is_of(pickings, told), True)
        self.assertIs(is_of(pickings, latest_hung(pickings)), True)
        check_same(self, len(dict(latest_hung(pickings))["a"]), 6)

    def test_manners(self):
        for pickings in (PICKINGS, [((), [])], CLASHING[:1]):
            check_manners(self, latest_hung, {"pickings": in_lists(pickings)})
            check_manners(self, soonest_hung, {"pickings": in_lists(pickings)})


class RipeBy(unittest.TestCase):
    def test_by_hand(self):
        for fruit, gone, due in [("fig", [], "yes"), ("nut", [], "no"), ("nut", ["lime"], "yes"), ("nut", ["fig"], "open"),
                                 ("pear", ["lime", "nut"], "no"), ("pear", ["fig"], "open"), ("kaki", [], "no"),
                                 ("pear", ["nut", "lime", "fig"], "yes"), ("kaki", ["fig", "lime", "nut", "pear"], "no")]:
            check_same(self, ripe_by(PICKINGS, fruit, gone), due)

    def test_the_fruit_itself_and_strange_names_are_no_matter(self):
        for fruit in PICKINGS[0][0]:
            for gone in subsets(others_of(PICKINGS[0][0], fruit)):
                due = ripe_by(PICKINGS, fruit, list(gone))
                for more in ([fruit], ["zz"], ["zz", fruit, "plum"], ["zz", "zz"], list(gone)):
                    check_same(self, ripe_by(PICKINGS, fruit, [*more, *gone[::-1]]), due)
        check_same(self, ripe_by([(("a", "b"), [])], "a", ["a", "b", "zz"]), "open")
        check_same(self, ripe_by([(("a", "b"), [])], "a", ["a", "zz"]), "no")

    def test_no_fruit_ahead_of_clash(self):
        for pickings in (PICKINGS, CLASHING, [((), [])]):
            for text in [*ANY_TEXTS, "zz"]:
                check_refused(self, NoFruit, text, ripe_by, {"pickings": pickings, "fruit": text, "gone": ["fig"]})
        self.assertEqual(NoFruit.__bases__, (LookupError,))

    def test_manners(self):
        for fruit in ("nut", "pear"):
            for gone in (["lime"], ["fig", "zz"], []):
                check_manners(self, ripe_by, {"pickings": in_lists(PICKINGS), "fruit": fruit, "gone": list(gone)})


class Refused(unittest.TestCase):
    def check_clash(self, pickings, triple):
        check_refused(self, Clash, triple, latest_hung, {"pickings": pickings}, told=True)
        check_refused(self, Clash, triple, soonest_hung, {"pickings": pickings}, told=True)
        for fruit in pickings[0][0]:
            check_refused(self, Clash, triple, ripe_by, {"pickings": pickings, "fruit": fruit, "gone": ["zz"]}, told=True)

    def test_by_hand(self):
        self.check_clash(CLASHING, ("fig", 0, 1))
        self.check_clash([CLASHING[1], CLASHING[1], CLASHING[0]], ("fig", 2, 0))
        self.assertEqual(Clash.__bases__, (ValueError,))

    def test_as_clash_tells(self):
        rng = random.Random(56)
        unseen = some_unseen()[3]
        for pickings in unseen.samples(66, 200):
            if rng.random() < 0.05 and not unseen.with_all(pickings):
                self.check_clash(pickings, clash(pickings))


if __name__ == "__main__":
    unittest.main()
