"""[12]: placed, steps, turn_at, rearmost."""

import random
import unittest

from ripepicks.errors import NoFruit
from ripepicks.orchards import made
from ripepicks.turns import placed, rearmost, steps, turn_at
from tests.helper import (ANY_TEXTS, GREATEST, GROVE, LIKING, all_likings, check_manners, check_refused, check_same,
                          coming_rows, fruits_in, in_lists, plain_pick, random_rows, small_orchards)


def moved(liking, fruit, place):
    """The fruit moved to that place."""
    rest = [each for each in liking if each != fruit]
    rest.insert(place, fruit)
    return tuple(rest)


def plain_turns(orchard, liking, fruit):
    """The fruit's turn by each place, None where it stays."""
    rows = [plain_pick(orchard, moved(liking, fruit, place)) for place in range(len(liking))]
    return [row.index(fruit) + 1 if fruit in row else None for row in rows]


def turn_by(told, liking, fruit):
    """What the steps say: the first of the turns whose other the fruit is liked better than, else the last one."""
    for turn, other in told:
        if other is None or liking.index(fruit) < liking.index(other):
            return turn
    return None


class Placed(unittest.TestCase):
    def test_by_hand(self):
        check_same(self, placed(LIKING, "lime", 0), ("lime", "pear", "kaki", "nut", "fig"))
        check_same(self, placed(LIKING, "lime", 3), LIKING)
        check_same(self, placed(LIKING, "lime", 4), ("pear", "kaki", "nut", "fig", "lime"))
        check_same(self, placed(LIKING, "pear", 2), ("kaki", "nut", "pear", "lime", "fig"))
        check_same(self, placed(("a",), "a", 0), ("a",))

    def test_all_places(self):
        for liking in [("a",), ("b", "a"), ("ab", "a", "b", "c")]:
            for fruit in liking:
                for place in range(len(liking)):
                    told = placed(liking, fruit, place)
                    check_same(self, told, moved(liking, fruit, place))
                    self.assertEqual(told.index(fruit), place)

    def test_no_fruit(self):
        for text in ANY_TEXTS:
            check_refused(self, NoFruit, text, placed, {"liking": LIKING, "fruit": text, "place": 0})
            check_refused(self, NoFruit, text, placed, {"liking": (), "fruit": text, "place": 0})
        self.assertEqual(NoFruit.__bases__, (LookupError,))

    def test_manners(self):
        for place in (0, 2, 4):
            check_manners(self, placed, {"liking": list(LIKING), "fruit": "nut", "place": place})


class Steps(unittest.TestCase):
    def test_by_hand(self):
        # Without the fig: lime, nut; the pear hangs by the fig.
        check_same(self, steps(GROVE, LIKING, "fig"), [(1, "lime"), (3, None)])
        check_same(self, steps(GROVE, ("pear", "kaki", "lime", "nut", "fig"), "fig"), [(1, "lime"), (2, "nut"), (3, None)])
        check_same(self, steps(GROVE, LIKING, "lime"), [(1, "fig"), (2, None)])
        check_same(self, steps(GROVE, LIKING, "nut"), [(2, "fig"), (3, None)])
        check_same(self, steps(GROVE, LIKING, "pear"), [(4, None)])
        check_same(self, steps(GROVE, LIKING, "kaki"), [])
        check_same(self, steps((("a", ((),)),), ("a",), "a"), [(1, None)])
        check_same(self, steps((("a", ()),), ("a",), "a"), [])

    def test_turn_at_and_rearmost_by_hand(self):
        check_same(self, [turn_at(GROVE, LIKING, "fig", place) for place in range(5)], [1, 1, 1, 1, 3])
        check_same(self, [rearmost(GROVE, LIKING, "fig", turn) for turn in (-1, 0, 1, 2, 3, 4, 99)],
                   [None, None, 3, 3, 4, 4, 4])
        check_same(self, [turn_at(GROVE, LIKING, "kaki", place) for place in range(5)], [None] * 5)
        check_same(self, [rearmost(GROVE, LIKING, "kaki", turn) for turn in (-1, 0, 1, 5, 99)], [None] * 5)
        check_same(self, [rearmost(GROVE, LIKING, "pear", turn) for turn in (3, 4, 5, 10 ** 30, -10 ** 30)],
                   [None, 4, 4, 4, None])

    def test_by_placing_at_each_place(self):
        for orchard in small_orchards(12, 30):
            for liking in all_likings(orchard)[::5]:
                for fruit in fruits_in(orchard):
                    self.check_one(orchard, liking, fruit)

    def check_one(self, orchard, liking, fruit):
        """By the picking with the fruit at each place."""
        turns = plain_turns(orchard, liking, fruit)
        check_same(self, [turn_at(orchard, liking, fruit, place) for place in range(len(liking))], turns)
        for turn in range(-1, len(liking) + 3):
            places = [place for place, each in enumerate(turns) if each is not None and each <= turn]
            check_same(self, rearmost(orchard, liking, fruit, turn), max(places, default=None))
        told = steps(orchard, liking, fruit)
        check_same(self, [turn_by(told, moved(liking, fruit, place), fruit) for place in range(len(liking))], turns)
        self.check_form(told, turns, liking, fruit)

    def check_form(self, told, turns, liking, fruit):
        """Turns rise and are just those that some place gives, each other one is liked less, the last one is None."""
        if turns[0] is None:
            check_same(self, told, [])
            return
        self.assertEqual([turn for turn, other in told], sorted(set(turns)))
        self.assertIs(told[-1][1], None)
        ranks = [liking.index(other) for turn, other in told[:-1]]
        self.assertEqual(ranks, sorted(set(ranks)))
        self.assertNotIn(fruit, [other for turn, other in told])
        check_same(self, told, [tuple(pair) for pair in told])

    def test_the_fruit_s_own_place_is_no_matter(self):
        rng = random.Random(22)
        for round_ in range(30):
            orchard = made(coming_rows(rng, ["a", "b", "cc", "d", "e"], 3, 3))
            liking = tuple(rng.sample(fruits_in(orchard), 5))
            for fruit in liking:
                told = steps(orchard, liking, fruit)
                for place in range(5):
                    check_same(self, steps(orchard, moved(liking, fruit, place), fruit), told)

    def test_no_fruit(self):
        for text in ANY_TEXTS:
            for orchard, liking in [(GROVE, LIKING), ((), ())]:
                given = {"orchard": orchard, "liking": liking, "fruit": text}
                check_refused(self, NoFruit, text, steps, given)
                check_refused(self, NoFruit, text, turn_at, {**given, "place": 0})
                for turn in (-1, 0, 1, 99):
                    check_refused(self, NoFruit, text, rearmost, {**given, "turn": turn})

    def test_manners(self):
        for fruit in ("fig", "pear", "kaki"):
            check_manners(self, steps, {"orchard": in_lists(GROVE), "liking": list(LIKING), "fruit": fruit})
            check_manners(self, turn_at, {"orchard": in_lists(GROVE), "liking": list(LIKING), "fruit": fruit, "place": 4})
            check_manners(self, rearmost, {"orchard": in_lists(GROVE), "liking": list(LIKING), "fruit": fruit, "turn": 2})

    def test_24_fruits(self):
        rng = random.Random(32)
        everything = made([(fruit, [[]]) for fruit in GREATEST])
        orchards = [everything, *[made(each(rng, list(GREATEST), 6, 6)) for each in (random_rows, coming_rows, coming_rows)]]
        for orchard in orchards:
            liking = tuple(rng.sample(GREATEST, 24))
            for fruit in rng.sample(GREATEST, 4):
                self.check_one(orchard, liking, fruit)
        liking = tuple(GREATEST)
        self.assertEqual(steps(everything, liking, "a"), [*zip(range(1, 24), GREATEST[1:]), (24, None)])
        self.assertEqual([turn_at(everything, liking, "a", place) for place in range(24)], list(range(1, 25)))


if __name__ == "__main__":
    unittest.main()
