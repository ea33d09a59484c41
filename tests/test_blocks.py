"""[11] and [1] (c): heads, blocks, merged, own_rows."""

import itertools
import random
import unittest

from ripepicks.blocks import blocks, heads, merged, own_rows
from ripepicks.orchards import made, side_by_side
from ripepicks.picking import pick
from tests.helper import (GREATEST, check_manners, check_same, coming_rows, fruits_in, plain_orchard, plain_pick,
                          random_rows, subsets)

LIKING = ("fig", "lime", "nut", "pear", "plum", "kaki")


def plain_heads(liking, row):
    """Those that all ahead of them are liked better than."""
    return [name for at, name in enumerate(row) if all(liking.index(each) < liking.index(name) for each in row[:at])]


class Blocks(unittest.TestCase):
    def test_by_hand(self):
        row = ["lime", "fig", "pear", "nut", "kaki", "plum"]
        check_same(self, heads(LIKING, row), ["lime", "pear", "kaki"])
        check_same(self, blocks(LIKING, row), [["lime", "fig"], ["pear", "nut"], ["kaki", "plum"]])
        check_same(self, heads(LIKING, list(LIKING)), list(LIKING))
        check_same(self, blocks(LIKING, list(LIKING)), [[name] for name in LIKING])
        check_same(self, heads(LIKING, list(LIKING[::-1])), ["kaki"])
        check_same(self, blocks(LIKING, list(LIKING[::-1])), [list(LIKING[::-1])])

    def test_the_bare_row(self):
        for liking in ((), ("a",), LIKING):
            check_same(self, heads(liking, []), [])
            check_same(self, blocks(liking, []), [])

    def test_likings_with_more_names(self):
        check_same(self, heads(LIKING, ["nut", "fig", "plum"]), ["nut", "plum"])
        check_same(self, blocks(LIKING, ["nut", "fig", "plum"]), [["nut", "fig"], ["plum"]])
        check_same(self, blocks(LIKING, ["kaki"]), [["kaki"]])

    def test_all_rows_of_all_likings(self):
        for liking in itertools.permutations(["a", "b", "cc", "d"]):
            for size in range(5):
                for row in map(list, itertools.permutations(liking, size)):
                    due = plain_heads(liking, row)
                    check_same(self, heads(liking, row), due)
                    parts = blocks(liking, row)
                    self.assertEqual([name for part in parts for name in part], row)
                    self.assertEqual([part[0] for part in parts], due)
                    check_same(self, parts, [list(part) for part in parts])

    def test_manners(self):
        for function in (heads, blocks):
            check_manners(self, function, {"liking": list(LIKING), "row": ["lime", "fig", "pear", "nut"]})
            check_manners(self, function, {"liking": [], "row": []})


class Merged(unittest.TestCase):
    def test_by_hand(self):
        check_same(self, merged(LIKING, [["lime", "fig", "pear"], ["nut", "plum", "kaki"]]),
                   ["lime", "fig", "nut", "pear", "plum", "kaki"])
        check_same(self, merged(LIKING, [["plum", "fig", "kaki"], ["pear", "nut"], ["lime"]]),
                   ["lime", "pear", "nut", "plum", "fig", "kaki"])

    def test_no_row_and_bare_ones(self):
        for liking in ((), LIKING):
            check_same(self, merged(liking, []), [])
            check_same(self, merged(liking, [[]]), [])
            check_same(self, merged(liking, [[], [], []]), [])
        check_same(self, merged(LIKING, [[], ["pear", "fig"], []]), ["pear", "fig"])
        check_same(self, merged(LIKING, [["pear", "fig"]]), ["pear", "fig"])

    def test_by_always_taking_the_better_liked_first_one(self):
        # Of rows side by side each picker takes, of their first ones that are left, the best liked.
        rng = random.Random(11)
        for round_ in range(300):
            liking = tuple(rng.sample("abcdefghij", 10))
            names = rng.sample(liking, rng.randint(0, 10))
            cuts = sorted(rng.randint(0, len(names)) for cut in range(rng.randint(0, 3)))
            rows = [names[low:high] for low, high in zip([0, *cuts], [*cuts, len(names)])]
            left = [list(row) for row in rows]
            due = []
            while any(left):
                best = min([row for row in left if row], key=lambda row: liking.index(row[0]))
                due.append(best.pop(0))
            check_same(self, merged(liking, rows), due)
            check_same(self, merged(liking, rows[::-1]), due)

    def test_two_orchards_side_by_side(self):
        rng = random.Random(21)
        for round_ in range(150):
            one = plain_orchard(rng.choice([random_rows, coming_rows])(rng, ["a", "cc", "e", "g"][:rng.randint(0, 4)], 3, 3))
            other = plain_orchard(rng.choice([random_rows, coming_rows])(rng, ["b", "ca", "f"][:rng.randint(0, 3)], 3, 2))
            names = [*fruits_in(one), *fruits_in(other)]
            liking = tuple(rng.sample(names, len(names)))
            self.check_both(one, other, liking)

    def check_both(self, one, other, liking):
        """Their own rows by their own likings, merged by the liking of both, are the row of both."""
        lots = [tuple(fruits_in(one)), tuple(fruits_in(other))]
        rows = [plain_pick(each, [name for name in liking if name in lot]) for each, lot in zip((one, other), lots)]
        due = plain_pick(sorted(one + other), liking)
        check_same(self, merged(liking, rows), due)
        check_same(self, own_rows(due, lots), rows)
        check_same(self, pick(side_by_side(one, other), liking), due)

    def test_12_and_12_fruits(self):
        rng = random.Random(31)
        for round_ in range(20):
            one = made(rng.choice([random_rows, coming_rows])(rng, list(GREATEST[::2]), 6, 6))
            other = made(coming_rows(rng, list(GREATEST[1::2]), 6, 6))
            self.check_both(one, other, tuple(rng.sample(GREATEST, 24)))

    def test_manners(self):
        check_manners(self, merged, {"liking": list(LIKING), "rows": [["lime", "fig", "pear"], ["nut", "plum"], []]})
        check_manners(self, merged, {"liking": list(LIKING), "rows": [["lime", "fig", "pear"]]})
        check_manners(self, merged, {"liking": [], "rows": []})


class OwnRows(unittest.TestCase):
    def test_by_hand(self):
        row = ["lime", "fig", "pear", "nut"]
        check_same(self, own_rows(row, [("fig", "nut"), ("lime", "pear")]), [["fig", "nut"], ["lime", "pear"]])
        check_same(self, own_rows(row, [("lime", "nut", "plum"), (), ("fig", "lime"), ("fig", "lime")]),
                   [["lime", "nut"], [], ["lime", "fig"], ["lime", "fig"]])
        check_same(self, own_rows(row, []), [])
        check_same(self, own_rows([], [(), ("fig",)]), [[], []])
        check_same(self, own_rows(["ab", "a"], [("a",), ("b",)]), [["a"], []])

    def test_all_lots(self):
        row = ["d", "b", "a", "cc"]
        lots = subsets(["a", "b", "cc", "d", "e"])
        check_same(self, own_rows(row, lots), [[name for name in row if name in set(lot)] for lot in lots])

    def test_manners(self):
        check_manners(self, own_rows, {"row": ["lime", "fig", "pear"], "lots": [["fig", "lime"], ["fig", "lime"], []]})
        check_manners(self, own_rows, {"row": ["lime", "fig"], "lots": [["fig", "lime"]]})
        check_manners(self, own_rows, {"row": [], "lots": []})

    def test_24_names(self):
        rng = random.Random(41)
        liking = tuple(rng.sample(GREATEST, 24))
        for round_ in range(50):
            row = rng.sample(GREATEST, 24)
            lots = [tuple(GREATEST[at::5]) for at in range(5)]
            rows = own_rows(row, lots)
            self.assertEqual(rows, [[name for name in row if name in lot] for lot in lots])
            self.assertEqual(heads(liking, row), plain_heads(liking, row))
            self.assertEqual([part[0] for part in blocks(liking, row)], plain_heads(liking, row))
            again = merged(liking, rows)
            self.assertEqual(own_rows(again, lots), rows)
            self.assertEqual(merged(liking, own_rows(again, lots)), again)


if __name__ == "__main__":
    unittest.main()
