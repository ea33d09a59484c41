"""[17] and [1] (e): sure_row, next_ones, parted."""

import itertools
import random
import unittest

from ripepicks.between import latest_hung, soonest_hung
from ripepicks.errors import Clash
from ripepicks.nexts import next_ones, parted, sure_row
from ripepicks.orchards import is_orchard, made
from ripepicks.pickings import clash, is_of
from tests.helper import (GREATEST, all_likings, check_manners, check_refused, check_same, coming_rows, in_lists, plain_pick,
                          random_rows, some_unseen)

PICKINGS = [(("pear", "kaki", "nut", "lime", "fig"), ["lime", "nut", "fig", "pear"]),
            (("fig", "kaki", "lime", "nut", "pear"), ["fig", "lime", "nut", "pear"])]
CLASHING = [(("fig", "lime"), ["fig", "lime"]), (("fig", "lime"), ["lime", "fig"])]
TEN = GREATEST[:10]


def beginning(rows):
    """The longest beginning that all of them have."""
    many = 0
    while all(len(row) > many and row[many] == rows[0][many] for row in rows):
        many += 1
    return rows[0][:many]


def nexts_of(rows, begun, liking):
    """Those that go next behind the beginning in some of the rows, the best liked first, None at the end."""
    found = {row[len(begun)] if len(row) > len(begun) else None for row in rows}
    return sorted(found, key=[*liking, None].index)


class Nexts(unittest.TestCase):
    def check_parted(self, pickings, liking, one_row):
        told = parted(pickings, liking)
        self.assertIs(told is None, one_row)
        if told is not None:
            self.assertIs(type(told), tuple)
            begun = sure_row(pickings, liking)
            one, other = told
            for orchard in told:
                self.assertIs(is_orchard(orchard), True)
                self.assertIs(is_of(pickings, orchard), True)
            rows = [plain_pick(orchard, liking) for orchard in told]
            self.assertEqual([row[:len(begun)] for row in rows], [begun, begun])
            self.assertNotEqual(rows[0][len(begun):len(begun) + 1], rows[1][len(begun):len(begun) + 1])

    def test_by_hand(self):
        # The nut is ripe by the lime, maybe by the fig or the pear; the pear isn't by lime and nut, maybe by the fig.
        for liking, row, ones in [("fig pear nut lime kaki", ["fig"], ["pear", "nut", "lime"]),
                                  ("fig nut pear lime kaki", ["fig"], ["nut", "pear", "lime"]),
                                  ("fig kaki lime pear nut", ["fig", "lime"], ["pear", "nut"]),
                                  ("kaki lime nut fig pear", ["lime", "nut", "fig", "pear"], [None]),
                                  ("lime fig kaki nut pear", ["lime", "fig", "nut", "pear"], [None])]:
            check_same(self, sure_row(PICKINGS, tuple(liking.split())), row)
            check_same(self, next_ones(PICKINGS, tuple(liking.split())), ones)
            self.check_parted(PICKINGS, tuple(liking.split()), ones == [None])

    def test_all_rows_end(self):
        check_same(self, sure_row([((), [])], ()), [])
        check_same(self, next_ones([((), [])], ()), [None])
        self.assertIs(parted([((), [])], ()), None)
        none_goes = [(("a", "b"), [])]
        for liking in itertools.permutations("ab"):
            check_same(self, sure_row(none_goes, liking), [])
            check_same(self, next_ones(none_goes, liking), [None])
            self.assertIs(parted(none_goes, liking), None)
        for liking, row in PICKINGS:
            check_same(self, sure_row(PICKINGS, liking), row)
            check_same(self, next_ones(PICKINGS, liking), [None])
            self.assertIs(parted(PICKINGS, liking), None)

    def test_by_all_orchards_that_have_them(self):
        rng = random.Random(17)
        open_ones = 0
        for unseen in some_unseen():
            for pickings in unseen.samples(27, 250):
                orchards = unseen.with_all(pickings)
                if orchards and (len(pickings) != 2 or rng.random() < 0.15):
                    for liking in itertools.permutations(unseen.names):
                        rows = [plain_pick(orchard, liking) for orchard in orchards]
                        begun = beginning(rows)
                        check_same(self, sure_row(pickings, liking), begun)
                        check_same(self, next_ones(pickings, liking), nexts_of(rows, begun, liking))
                        self.check_parted(pickings, liking, len(begun) == len(rows[0]))
                        open_ones += len(begun) < len(rows[0])
        self.assertGreater(open_ones, 200)

    def test_as_long_as_some_that_come_are_not_gone_one_is_sure(self):
        rng = random.Random(37)
        for unseen in some_unseen():
            for pickings in unseen.samples(47, 100):
                if rng.random() < 0.1 and unseen.with_all(pickings):
                    liking = tuple(rng.sample(unseen.names, len(unseen.names)))
                    told = next_ones(pickings, liking)
                    self.assertTrue(told == [None] or None not in told and len(told) > 1)

    def check_greatest(self, orchard, pickings, liking):
        begun, ones = sure_row(pickings, liking), next_ones(pickings, liking)
        late, soon = latest_hung(pickings), soonest_hung(pickings)
        for each in (orchard, late, soon):
            row = plain_pick(each, liking)
            self.assertEqual(row[:len(begun)], begun)
            self.assertIn((row[len(begun):] or [None])[0], ones)
        self.check_parted(pickings, liking, ones == [None])
        self.assertEqual(ones, sorted(set(ones), key=[*liking, None].index))
        for fruit in [] if ones == [None] else ones:
            # This one alone hung as soon as can be.
            shown = tuple(one if one[0] != fruit else other for one, other in zip(late, soon))
            self.assertIs(is_of(pickings, shown), True)
            self.assertEqual(plain_pick(shown, liking)[:len(begun) + 1], [*begun, fruit])

    def test_ten_fruits_six_pickings(self):
        rng = random.Random(57)
        for round_ in range(12):
            orchard = made(rng.choice([random_rows, coming_rows])(rng, list(TEN), 6, 6))
            likings = [tuple(rng.sample(TEN, 10)) for each in range(6)]
            pickings = [(liking, plain_pick(orchard, liking)) for liking in likings]
            for each in range(4):
                self.check_greatest(orchard, pickings, tuple(rng.sample(TEN, 10)))
            for liking, row in pickings:
                self.assertEqual(sure_row(pickings, liking), row)
                self.assertEqual(next_ones(pickings, liking), [None])

    def test_four_fruits_24_pickings(self):
        rng = random.Random(67)
        for round_ in range(12):
            orchard = made(coming_rows(rng, list("abcd"), 4, 3))
            every = all_likings(orchard)
            pickings = [(liking, plain_pick(orchard, liking)) for liking in rng.sample(every, 24)]
            for liking, row in rng.sample(pickings, 6):
                self.check_greatest(orchard, pickings[12:], liking)
                self.assertEqual(sure_row(pickings, liking), row)
                self.assertEqual(next_ones(pickings, liking), [None])
                self.assertIs(parted(pickings, liking), None)

    def test_clash(self):
        rng = random.Random(77)
        unseen = some_unseen()[3]
        clashing = [pickings for pickings in unseen.samples(87, 100) if not unseen.with_all(pickings)]
        for pickings in [CLASHING, *rng.sample(clashing, 60)]:
            for function in (sure_row, next_ones, parted):
                given = {"pickings": pickings, "liking": pickings[0][0][::-1]}
                check_refused(self, Clash, clash(pickings), function, given, told=True)
        self.assertEqual(Clash.__bases__, (ValueError,))

    def test_manners(self):
        for function in (sure_row, next_ones, parted):
            for liking in ("fig pear nut lime kaki", "kaki lime nut fig pear"):
                check_manners(self, function, {"pickings": in_lists(PICKINGS), "liking": liking.split()})


if __name__ == "__main__":
    unittest.main()
