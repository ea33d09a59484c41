"""[20]: orchard_text, orchard_in."""

import random
import re
import unittest

from ripepicks.between import soonest_hung
from ripepicks.errors import BadRow
from ripepicks.orchards import is_orchard, made
from ripepicks.texts import orchard_in, orchard_text
from tests.helper import (GREATEST, GROVE, check_manners, check_refused, check_same, coming_rows, in_lists, plain_pick,
                          random_rows, small_orchards)

TEXT = "fig: -\nkaki:\nlime: -\nnut: kaki lime\npear: fig,nut"
NAME = "[a-z]{1,8}"
WORD = f"(?:-|{NAME}(?:,{NAME})*)"
ROW = re.compile(f"({NAME}):((?: {WORD})*)")


def is_well(rows, number):
    """Whether the row of this number can stand where it does, clause by clause, those ahead being well."""
    found = ROW.fullmatch(rows[number])
    if not found or "\n" in rows[number]:
        return False
    fruit = found[1]
    lots = [[] if word == "-" else word.split(",") for word in found[2].split()]
    named = {row[:row.index(":")] for row in rows if ":" in row}
    sets = [set(lot) for lot in lots]
    return (all(lot == sorted(set(lot)) for lot in lots)
            and (number == 0 or rows[number - 1].split(":")[0] < fruit)
            and all(fruit not in lot and lot <= named for lot in sets)
            and not any(one <= other for at, one in enumerate(sets) for other in sets[:at] + sets[at + 1:])
            and lots == sorted(lots))


def first_bad(rows):
    """The number of the first row that can't stand where it does, None where all can."""
    return next((number for number in range(len(rows)) if not is_well(rows, number)), None)


def rows_of(text):
    """Its rows: the bare text has none."""
    return text.split("\n") if text else []


def spoilt(rng, text):
    """The text with a few signs or rows changed."""
    for round_ in range(rng.randint(1, 2)):
        at = rng.randint(0, len(text))
        rows = text.split("\n")
        one, other = rng.randrange(len(rows)), rng.randrange(len(rows))
        rows[one], rows[other] = rows[other], rows[one]
        text = rng.choice([text[:at] + rng.choice(["a", "b", "z", ",", " ", ":", "-", "\n", "A", "~", "cc"]) + text[at:],
                           text[:at] + text[at + 1:], text[:at] + rng.choice("abcz,: -\n") + text[at + 1:],
                           "\n".join(rows), "\n".join(rows[:one] + rows[one + 1:]), "\n".join(rows[:one + 1] + rows[one:])])
    return text


class OrchardText(unittest.TestCase):
    def test_by_hand(self):
        check_same(self, orchard_text(GROVE), TEXT)
        check_same(self, orchard_text(()), "")
        check_same(self, orchard_text((("a", ()),)), "a:")
        check_same(self, orchard_text((("a", ((),)),)), "a: -")
        check_same(self, orchard_text((("a", (("b", "c"), ("c", "d"), ("d",))), ("b", ()), ("c", ()), ("d", ()))),
                   "a: b,c c,d d\nb:\nc:\nd:")

    def test_there_and_back(self):
        for orchard in small_orchards(20, 200):
            text = orchard_text(orchard)
            self.assertIs(first_bad(rows_of(text)), None)
            check_same(self, orchard_in(text), orchard)

    def test_greatest(self):
        rng = random.Random(30)
        for each in (random_rows, coming_rows) * 6:
            orchard = made(each(rng, list(GREATEST), 6, 6))
            check_same(self, orchard_in(orchard_text(orchard)), orchard)
        names = [(GREATEST[at % 24] * 8)[:8 - at // 24] for at in range(60)]
        orchard = made([(name, [[other] for other in names[:30] if other != name]) for name in names])
        check_same(self, orchard_in(orchard_text(orchard)), orchard)

    def test_told_ones_whatever_their_size(self):
        names = GREATEST[:10]
        pickings = []
        for lot in ["bcd", "efg", "hij", "beh", "cfi", "dgj"]:
            first, *rest = [name for name in names[1:] if name not in lot]
            pickings.append(((*lot, "a", first, *rest), [*lot, first, "a", *rest]))
        orchard = soonest_hung(pickings)
        self.assertGreater(len(orchard_text(orchard).split("\n")[0]), 60)
        check_same(self, orchard_in(orchard_text(orchard)), orchard)

    def test_manners(self):
        check_manners(self, orchard_text, {"orchard": in_lists(GROVE)})
        check_manners(self, orchard_text, {"orchard": []})
        check_manners(self, orchard_in, {"text": TEXT})
        check_manners(self, orchard_in, {"text": ""})


class OrchardIn(unittest.TestCase):
    def check_bad(self, text, number):
        self.assertEqual(first_bad(rows_of(text)), number, text)
        check_refused(self, BadRow, number, orchard_in, {"text": text})

    def test_by_hand(self):
        check_same(self, orchard_in(TEXT), GROVE)
        check_same(self, orchard_in(""), ())
        check_same(self, orchard_in("a:"), (("a", ()),))
        check_same(self, orchard_in("a: -"), (("a", ((),)),))
        check_same(self, orchard_in("pick: row\nrow: -"), (("pick", (("row",),)), ("row", ((),))))
        self.assertEqual(BadRow.__bases__, (ValueError,))

    def test_not_so_written_by_itself(self):
        for row in [" ", ":", "a", "-", "a ", " a:", "a :", "a: ", "a:  -", "a: - ", "a:-", "a:b", "a: b,", "a: ,b", "a: b,,c",
                    "a: b, c", "a: b ,c", "a: b  c", "A: -", "a: B", "a1:", "abcdefghi:", "a: abcdefghi", "a::", "a: b:", "a: :",
                    ": -", "a: -,b", "a: b,-", "a: --", "a: _", "a: b;c", "a: (b)", "a\t: -", "a:\t-", "a: b\r", "a: -\r",
                    "\u00e9:", "a: \u00e9", "~", "a: c,b", "a: b,b", "a: c b,d,c", "pick", "pick:pick", "a\x0b:", "a: b\x1cc"]:
            self.check_bad(row, 0)
            self.check_bad(row + "\nb:\nc:\nd:", 0)
            self.check_bad("aa:\n" + row + "\nb:\nc:\nd:", 1)

    def test_empty_rows(self):
        for text, number in [("\n", 0), ("a:\n", 1), ("\na:", 0), ("a:\n\nb:", 1), ("a:\n\n", 1), ("a:\nb:\n", 2)]:
            self.check_bad(text, number)

    def test_fruits_that_do_not_rise(self):
        for text, number in [("a:\na:", 1), ("b:\na:", 1), ("a:\nc:\nb:", 2), ("ab:\na:", 1), ("a:\nb:\nb: -\nc: zz", 2)]:
            self.check_bad(text, number)

    def test_its_own_fruit_in_a_lot(self):
        for text, number in [("a: a", 0), ("a:\nb: a,b", 1), ("a:\nb: a b", 1), ("a: b\nb: a\nc: a,b,c", 2)]:
            self.check_bad(text, number)

    def test_a_lot_within_another_one(self):
        for text, number in [("a: - b\nb:", 0), ("a: b b\nb:", 0), ("a: b b,c\nb:\nc:", 0), ("a: - -", 0), ("a:\nb:\nc: a,b b", 2)]:
            self.check_bad(text, number)

    def test_lots_that_do_not_rise(self):
        for text, number in [("a: c b\nb:\nc:", 0), ("a: c b,d\nb:\nc:\nd:", 0), ("a:\nb:\nc:\nd: b a,c", 3)]:
            self.check_bad(text, number)

    def test_a_name_that_stands_ahead_of_no_colon(self):
        for text, number in [("a: b", 0), ("a: b\nb", 0), ("a: b\nbb:", 0), ("a: b\nc: b", 0), ("a: b\n b:", 0), ("a: b\nb :", 0),
                             ("a: b\nc:b:", 0), ("a: b\n:b:", 0), ("a:\nb: a,c", 1)]:
            self.check_bad(text, number)
        # Rows that are badly written themselves have one, too, ahead of their first colon.
        for text, number in [("a: b\nb:x", 1), ("a: b\nb::", 1), ("a: b\nb: :", 1), ("a: b\nb: b", 1), ("a: b\nc:\nb:", 2),
                             ("a: b\nb: zz", 1), ("a: c\nb\nc:zz", 1), ("a: b\nb: A\nc:", 1)]:
            self.check_bad(text, number)

    def test_the_first_row_of_several(self):
        for text, number in [("a: b\nb: b\nc: c", 1), ("b: c\na: b\nc: zz", 1), ("a: zz\nb: zz", 0), ("a: b\nb: a\n\nb: c", 2)]:
            self.check_bad(text, number)

    def test_spoilt_texts(self):
        rng = random.Random(40)
        well = 0
        for orchard in small_orchards(50, 250):
            for round_ in range(12):
                text = spoilt(rng, orchard_text(orchard))
                number = first_bad(rows_of(text))
                if number is None:
                    told = orchard_in(text)
                    self.assertIs(is_orchard(told), True)
                    self.assertEqual(orchard_text(told), text)
                    well += 1
                else:
                    self.check_bad(text, number)
        self.assertGreater(well, 100)

    def test_60_rows_of_200_signs(self):
        rng = random.Random(60)
        signs = "".join(chr(code) for code in range(32, 127) if chr(code) != "%")
        for round_ in range(10):
            rows = ["".join(rng.choice(signs) for sign in range(200)) for row in range(60)]
            self.check_bad("\n".join(rows), 0)
        names = sorted({"".join(rng.choice("abcdefg") for sign in range(rng.randint(1, 3))) for round_ in range(300)})[:60]
        rows = []
        for name in names:
            row = name + ":"
            for other in names:
                row = row + " " + other if other != name and len(row) < 196 else row
            rows.append(row)
        orchard = orchard_in("\n".join(rows))
        self.assertEqual(orchard_text(orchard), "\n".join(rows))
        self.assertEqual(plain_pick(orchard, tuple(names)), [])
        self.check_bad("\n".join([*rows[:59], "~" * 200]), first_bad([*rows[:59], "~" * 200]))


if __name__ == "__main__":
    unittest.main()
