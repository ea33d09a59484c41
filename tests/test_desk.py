"""[21]: answers."""

import random
import re
import unittest

from ripepicks.blocks import blocks
from ripepicks.coming import needs, stays
from ripepicks.desk import answers
from ripepicks.errors import BadLot, BadRow, NoFruit, NoPlace, NotLiking, Stays
from ripepicks.likings import likings_many
from ripepicks.orchards import gone_from, made
from ripepicks.rows import rows_many
from ripepicks.texts import orchard_text
from ripepicks.turns import placed, steps
from ripepicks.uppers import uppers
from tests.helper import (GREATEST, GROVE, TWELVE, check_manners, check_refused, check_same, coming_rows, fruits_in, plain_pick,
                          random_rows, small_orchards)
from tests.test_texts import NAME, WORD, first_bad, spoilt

TEXT = "fig: -\nkaki:\nlime: -\nnut: kaki lime\npear: fig,nut"
WRITTEN = re.compile(f"like(?: {NAME})*|move {NAME} (?:0|[1-9][0-9]?)|hang {NAME}(?: {WORD})*|(?:fell|turn|steps|needs) {NAME}"
                     "|undo|row|stays|rows|likings|uppers|blocks|text")
ASKS = ["row", "stays", "rows", "likings", "uppers", "blocks", "text"]


def asked(rows, text=TEXT):
    """The answers of the desk to the rows behind the text."""
    return answers("\n".join([*([text] if text else []), "pick", *rows]))


def plain_bad(text):
    """The number of the first row that isn't written as it must be, None where all are."""
    rows = text.split("\n")
    many = rows.index("pick") if "pick" in rows else len(rows)
    bad = first_bad(rows[:many])
    if bad is not None or many == len(rows):
        return many if bad is None else bad
    return next((at for at in range(many + 1, len(rows)) if not WRITTEN.fullmatch(rows[at])), None)


class Plain:
    """A desk of plain words: the orchard and the liking as they stand, and those that stood ahead of each deed."""

    def __init__(self, orchard):
        self.orchard = orchard
        self.liking = tuple(fruits_in(orchard))
        self.past = []

    def answer(self, row):
        word, *words = row.split(" ")
        try:
            if word == "undo":
                return self.undo()
            if word in ("like", "move", "hang", "fell"):
                anew = self.deed(word, words)
                self.past.append((self.orchard, self.liking))
                self.orchard, self.liking = anew
                return "done"
            return self.ask(word, *words) or "-"
        except (NoFruit, BadLot, NotLiking, NoPlace, Stays) as refusal:
            return f"refused {type(refusal).__name__}"

    def undo(self):
        if not self.past:
            return "no"
        self.orchard, self.liking = self.past.pop()
        return "yes"

    def deed(self, word, words):
        """The orchard and the liking behind it."""
        if word == "like":
            if sorted(words) != fruits_in(self.orchard):
                raise NotLiking(words)
            return self.orchard, tuple(words)
        fruit, *rest = words
        if fruit not in self.liking:
            raise NoFruit(fruit)
        if word == "move":
            if int(rest[0]) > len(self.liking) - 1:
                raise NoPlace(int(rest[0]))
            return self.orchard, placed(self.liking, fruit, int(rest[0]))
        if word == "fell":
            return gone_from(self.orchard, [fruit]), tuple(each for each in self.liking if each != fruit)
        lots = [[] if each == "-" else each.split(",") for each in rest]
        return made([(each, lots if each == fruit else old) for each, old in self.orchard]), self.liking

    def ask(self, word, fruit=None):
        row = plain_pick(self.orchard, self.liking)
        if word == "row":
            return " ".join(row)
        if word == "stays":
            return " ".join(stays(self.orchard))
        if word == "rows":
            return str(rows_many(self.orchard))
        if word == "likings":
            return str(likings_many(self.orchard, row))
        if word == "uppers":
            return " ".join(f"{one}<{upper}" for one, upper in uppers(self.orchard, row) if upper)
        if word == "blocks":
            return " ".join(",".join(block) for block in blocks(self.liking, row))
        if word == "text":
            return orchard_text(self.orchard).replace("\n", "; ")
        if fruit not in self.liking:
            raise NoFruit(fruit)
        if word == "turn":
            return str(row.index(fruit) + 1) if fruit in row else ""
        if word == "steps":
            return "; ".join(f"{turn} {other or '-'}" for turn, other in steps(self.orchard, self.liking, fruit))
        return " ".join(needs(self.orchard, fruit))


def any_row(rng, names):
    """A row of any kind, of these names and of strange ones."""
    name = lambda: rng.choice([*names, *names, *names, "zz"])
    lot = lambda: ",".join(name() for each in range(rng.randint(1, 2))) if rng.random() < 0.8 else "-"
    word = rng.choice(["like", "like", "move", "move", "hang", "hang", "hang", "fell", "undo", "undo", *ASKS,
                       "turn", "steps", "needs"])
    if word == "like":
        return " ".join([word, *rng.sample(names, len(names) - (rng.random() < 0.1 and bool(names)))])
    if word == "move":
        return f"move {name()} {rng.randint(0, len(names) + 1)}"
    if word == "hang":
        return " ".join([word, name(), *[lot() for each in range(rng.randint(0, 3))]])
    if word in ("fell", "turn", "steps", "needs"):
        return f"{word} {name()}"
    return word


class ByHand(unittest.TestCase):
    def test_asks(self):
        check_same(self, asked(["row", "stays", "rows", "likings", "uppers", "blocks", "text"]),
                   ["fig lime nut pear", "kaki", "3", "60", "fig<lime", "fig lime nut pear", TEXT.replace("\n", "; ")])
        check_same(self, asked(["turn fig", "turn pear", "turn kaki", "steps fig", "steps kaki", "steps pear"]),
                   ["1", "4", "-", "1 lime; 2 nut; 3 -", "-", "4 -"])
        check_same(self, asked(["needs pear", "needs fig", "needs kaki", "needs nut"]), ["fig lime nut", "-", "refused Stays", "lime"])
        check_same(self, asked([]), [])

    def test_like(self):
        check_same(self, asked(["like pear kaki nut lime fig", "row", "uppers", "blocks", "likings", "steps fig"]),
                   ["done", "lime nut fig pear", "lime<fig nut<fig", "lime,nut fig,pear", "40", "1 lime; 3 -"])
        check_same(self, asked(["like", "like fig", "like fig kaki lime nut", "like fig kaki lime nut pear zz",
                                "like fig fig kaki lime nut pear", "like fig kaki lime nut zz", "like fig fig lime nut pear"]),
                   ["refused NotLiking"] * 7)

    def test_move(self):
        check_same(self, asked(["move fig 4", "row", "move lime 0", "row", "move fig 0", "row"]),
                   ["done", "lime nut fig pear", "done", "lime nut fig pear", "done", "fig lime nut pear"])
        check_same(self, asked(["move fig 5", "move fig 99", "move zz 5", "move zz 0", "move fig 10", "row"]),
                   ["refused NoPlace", "refused NoPlace", "refused NoFruit", "refused NoFruit", "refused NoPlace",
                    "fig lime nut pear"])

    def test_hang(self):
        check_same(self, asked(["hang kaki pear nut,lime lime", "text", "row"]),
                   ["done", "fig: -; kaki: lime pear; lime: -; nut: kaki lime; pear: fig,nut", "fig lime kaki nut pear"])
        check_same(self, asked(["hang fig", "row", "hang fig - -", "row", "hang nut lime kaki,fig lime", "text"]),
                   ["done", "lime nut", "done", "fig lime nut pear", "done",
                    "fig: -; kaki:; lime: -; nut: fig,kaki lime; pear: fig,nut"])
        check_same(self, asked(["hang zz", "hang zz zz,zz", "hang fig zz", "hang fig fig", "hang fig lime,lime", "hang fig - fig",
                                "hang fig lime,nut,lime", "hang fig nut zz -", "text"]),
                   ["refused NoFruit", "refused NoFruit", *["refused BadLot"] * 6, TEXT.replace("\n", "; ")])

    def test_fell(self):
        check_same(self, asked(["fell fig", "text", "row", "turn fig", "fell fig", "like pear nut lime kaki", "row"]),
                   ["done", "kaki:; lime: -; nut: kaki lime; pear: nut", "lime nut pear", "refused NoFruit", "refused NoFruit",
                    "done", "lime nut pear"])
        check_same(self, asked(["fell a", "text", "row", "stays", "rows", "likings", "uppers", "blocks", "like", "fell a",
                                "move a 0", "hang a", "undo", "undo", "undo", "text"], "a:"),
                   ["done", "-", "-", "-", "1", "1", "-", "-", "done", *["refused NoFruit"] * 3, "yes", "yes", "no", "a:"])

    def test_undo(self):
        check_same(self, asked(["undo", "move fig 4", "fell nut", "hang zz", "like", "row", "undo", "row", "undo", "row", "undo"]),
                   ["no", "done", "done", "refused NoFruit", "refused NotLiking", "lime fig pear", "yes", "lime nut fig pear",
                    "yes", "fig lime nut pear", "no"])

    def test_the_bare_orchard(self):
        check_same(self, answers("pick"), [])
        check_same(self, asked([*ASKS, "like", "undo", "undo", "turn a"], ""),
                   ["-", "-", "1", "1", "-", "-", "-", "done", "yes", "no", "refused NoFruit"])

    def test_fruits_called_like_words(self):
        text = "like: -\nmove:\npick: row\nrow: -\nundo: pick"
        check_same(self, asked(["row", "turn pick", "like undo pick row like move", "row", "fell row", "text", "undo", "needs undo"],
                               text),
                   ["like row pick undo", "3", "done", "row pick undo like", "done", "like: -; move:; pick: -; undo: pick", "yes",
                    "pick row"])

    def test_manners(self):
        check_manners(self, answers, {"text": TEXT + "\npick\nrow\nfell fig\nrow"})
        check_same(self, answers(text="pick\nrow"), ["-"])


class Rows(unittest.TestCase):
    def check_bad(self, text, number):
        self.assertEqual(plain_bad(text), number, text)
        check_refused(self, BadRow, number, answers, {"text": text})

    def test_no_row_pick(self):
        for text, number in [("", 0), ("a:", 1), ("a:\nb: a", 2), ("\n", 0), ("a:\n", 1), ("a: zz", 0), ("row", 0), ("a:\nrow", 1),
                             ("pick ", 0), (" pick", 0), ("Pick", 0), ("a:\npick row", 1), ("pick:", 1), ("pick\r", 0)]:
            self.check_bad(text, number)
        self.check_bad(TEXT, 5)
        self.assertEqual(BadRow.__bases__, (ValueError,))

    def test_rows_ahead_of_pick(self):
        for text, number in [("\npick", 0), ("\npick\nrow", 0), ("a:\n\npick", 1), ("a: b\npick", 0), ("b:\na:\npick", 1),
                             ("a: a\npick\nzz", 0), ("a:\na\npick", 1), ("a: b\npick\nb:", 0), ("a: - b\nb:\npick", 0)]:
            self.check_bad(text, number)

    def test_rows_behind_pick(self):
        for row in ["", " ", "pick", "row ", " row", "row row", "rows fig", "stays a", "likings 1", "uppers -", "blocks ,", "text a",
                    "undo 1", "undo ", "Row", "like ", "like  fig", "like fig ", "like fig  kaki", "like FIG", "like a1", "like -",
                    "like abcdefghi", "like fig,kaki", "move", "move ", "move fig", "move fig ", "move 1", "move fig x",
                    "move fig 00", "move fig 01", "move fig 100", "move fig -1", "move fig +1", "move fig 1 ", "move fig  1",
                    "move fig 1 1", "move 1 fig", "move FIG 1", "move fig \u00b2", "move fig \u0661", "move fig 1.", "hang",
                    "hang ", "hang fig ", "hang fig  -", "hang fig - ", "hang fig ,", "hang fig a,", "hang fig ,a", "hang fig a,,b",
                    "hang fig -,a", "hang fig --", "hang fig: -", "hang FIG", "hang fig A", "hang fig abcdefghi", "hang -", "fell",
                    "fell ", "fell fig ", "fell fig nut", "fell FIG", "fell -", "turn", "turn fig nut", "turn 1", "steps",
                    "steps fig ", "steps  fig", "needs", "needs -", "needs abcdefghi", "done", "a:", "fig: -", "?", "rowfig", "li"]:
            self.check_bad(f"{TEXT}\npick\n{row}", 6)
            self.check_bad(f"pick\nrow\nfell zz\n{row}\nrow\n?", 3)
            self.check_bad(f"a: zz\npick\n{row}", 0)

    def test_bad_rows_ahead_of_all_else(self):
        self.check_bad(f"{TEXT}\npick\nfell zz\nrow\n", 8)
        self.check_bad("pick\n", 1)
        self.check_bad("pick\npick", 1)

    def test_spoilt_texts(self):
        rng = random.Random(21)
        well = 0
        for orchard in small_orchards(31, 150) * 3:
            rows = [any_row(rng, fruits_in(orchard)) for row in range(rng.randint(0, 3))]
            text = spoilt(rng, "\n".join([*([orchard_text(orchard)] if orchard else []), "pick", *rows]))
            number = plain_bad(text)
            if number is None:
                self.assertEqual(len(answers(text)), len(text.split("\n")) - text.split("\n").index("pick") - 1)
                well += 1
            else:
                self.check_bad(text, number)
        self.assertGreater(well, 30)


class ManyRows(unittest.TestCase):
    def check_all(self, orchard, rows):
        desk = Plain(orchard)
        due = [desk.answer(row) for row in rows]
        check_same(self, asked(rows, orchard_text(orchard)), due)
        return due

    def test_as_the_orchard_stands(self):
        rng = random.Random(41)
        told = []
        for orchard in small_orchards(51, 300):
            names = fruits_in(orchard) or ["a"]
            told += self.check_all(orchard, [any_row(rng, names) for row in range(rng.randint(5, 40))])
        for word in ("NoFruit", "BadLot", "NotLiking", "NoPlace", "Stays"):
            self.assertGreater(told.count("refused " + word), 10)

    def test_twelve_fruits(self):
        rng = random.Random(61)
        for round_ in range(10):
            orchard = made(rng.choice([random_rows, coming_rows])(rng, list(TWELVE), 6, 6))
            # All rows together are sixty at most: twelve, pick, and these.
            self.check_all(orchard, [any_row(rng, list(TWELVE)) for row in range(47)])

    def test_24_fruits(self):
        rng = random.Random(71)
        for round_ in range(8):
            orchard = made(rng.choice([random_rows, coming_rows])(rng, list(GREATEST), 6, 6))
            rows = [row for row in [any_row(rng, list(GREATEST)) for row in range(60)] if row != "rows"][:35]
            self.check_all(orchard, rows)

    def test_two_figures(self):
        names = [f"{one}{other}" for one in "ab" for other in GREATEST]
        orchard = made([(name, [[]]) for name in names])
        desk = Plain(orchard)
        rows = ["move aa 47", "row", "move aa 48", "move bx 0", "move ac 9", "move ac 10", "row", "move aa 99"]
        check_same(self, asked(rows, orchard_text(orchard)), [desk.answer(row) for row in rows])
        self.assertEqual(len(desk.past), 4)

    def test_grove_by_each_liking_and_place(self):
        rows = [f"move {fruit} {place}" for fruit in fruits_in(GROVE) for place in range(6)]
        self.check_all(GROVE, [each for row in rows for each in (row, "row", "uppers", "blocks", "steps fig", "likings")])


if __name__ == "__main__":
    unittest.main()
