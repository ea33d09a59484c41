"""A desk: an ORCHARD's text, then rows of deeds and asks, each answered by a text."""

from ripepicks.blocks import blocks
from ripepicks.coming import needs, stays
from ripepicks.errors import BadLot, BadRow, NoFruit, NoPlace, NotLiking, Stays
from ripepicks.likings import likings_many
from ripepicks.names import is_name
from ripepicks.orchards import fruits_of, gone_from, made, others, refuse_unknown
from ripepicks.picking import is_liking, pick, turn_of
from ripepicks.rows import rows_many
from ripepicks.texts import is_lot_word, lot_in, orchard_of, text_rows
from ripepicks.turns import placed, steps
from ripepicks.uppers import uppers

FIGURES = "0123456789"
ALONE = ("undo", "row", "stays", "rows", "likings", "uppers", "blocks", "text")
OF_A_FRUIT = ("fell", "turn", "steps", "needs")


def answers(text):
    """The list of a text for each row behind the row `pick`; BadRow."""
    rows = text.split("\n")
    many = rows.index("pick") if "pick" in rows else len(rows)
    orchard = orchard_of(rows[:many])
    if many == len(rows):
        raise BadRow(many)
    for number in range(many + 1, len(rows)):
        if not is_written(rows[number]):
            raise BadRow(number)
    desk = Desk(orchard)
    return [desk.answer(row) for row in rows[many + 1:]]


def is_written(row):
    """Whether it's a deed or an ask, written as it must be."""
    word, *rest = row.split(" ")
    if word == "like":
        return all([is_name(each) for each in rest])
    if word in ALONE:
        return not rest
    if not rest or not is_name(rest[0]):
        return False
    if word == "move":
        return len(rest) == 2 and is_place(rest[1])
    if word == "hang":
        return all([is_lot_word(each) for each in rest[1:]])
    return word in OF_A_FRUIT and len(rest) == 1


def is_place(word):
    """Whether it's one or two plain figures, no nought ahead but 0 itself."""
    return len(word) in (1, 2) and all([sign in FIGURES for sign in word]) and (word == "0" or word[0] != "0")


def like(orchard, liking, words):
    """The pair of the ORCHARD and the liking of these NAMEs; NotLiking."""
    if not is_liking(orchard, tuple(words)):
        raise NotLiking(tuple(words))
    return (orchard, tuple(words))


def move(orchard, liking, words):
    """The pair of the ORCHARD and the liking with the fruit at that place; NoFruit, NoPlace."""
    fruit, figures = words
    place = int(figures)
    refuse_unknown(orchard, fruit)
    if place >= len(liking):
        raise NoPlace(place)
    return (orchard, placed(liking, fruit, place))


def hang(orchard, liking, words):
    """The pair of the ORCHARD in which the fruit has the least of these LOTs, and the liking; NoFruit, BadLot."""
    fruit, *lots = words
    refuse_unknown(orchard, fruit)
    anew = [lot_in(word) for word in lots]
    return (made([(each, anew if each == fruit else hanging) for each, hanging in orchard]), liking)


def fell(orchard, liking, words):
    """The pair of the ORCHARD as soon as the fruit is gone, and the liking without it; NoFruit."""
    fruit = words[0]
    refuse_unknown(orchard, fruit)
    return (gone_from(orchard, [fruit]), tuple(others(liking, fruit)))


def by_blanks(texts):
    """The texts parted by blanks."""
    return " ".join(texts) or "-"


def row_told(orchard, liking, words):
    """The picking's row."""
    return by_blanks(pick(orchard, liking))


def stays_told(orchard, liking, words):
    """The fruits that stay."""
    return by_blanks(stays(orchard))


def rows_told(orchard, liking, words):
    """How many ROWs there are."""
    return str(rows_many(orchard))


def likings_told(orchard, liking, words):
    """How many LIKINGs lead to the picking's row."""
    return str(likings_many(orchard, pick(orchard, liking)))


def uppers_told(orchard, liking, words):
    """Each fruit of the picking's row that has an upper, with it."""
    pairs = uppers(orchard, pick(orchard, liking))
    return by_blanks([f"{fruit}<{upper}" for fruit, upper in pairs if upper is not None])


def blocks_told(orchard, liking, words):
    """The blocks of the picking's row."""
    return by_blanks([",".join(block) for block in blocks(liking, pick(orchard, liking))])


def turn_told(orchard, liking, words):
    """The fruit's turn; NoFruit."""
    turn = turn_of(orchard, liking, words[0])
    return "-" if turn is None else str(turn)


def steps_told(orchard, liking, words):
    """The fruit's turns, each with the other; NoFruit."""
    pairs = steps(orchard, liking, words[0])
    return "; ".join([f"{turn} {other or '-'}" for turn, other in pairs]) or "-"


def needs_told(orchard, liking, words):
    """Those without which the fruit wouldn't come; NoFruit, Stays."""
    return by_blanks(needs(orchard, words[0]))


def text_told(orchard, liking, words):
    """The rows of the ORCHARD's text."""
    return "; ".join(text_rows(orchard)) or "-"


DEEDS = {"like": like, "move": move, "hang": hang, "fell": fell}
ASKS = {"row": row_told, "stays": stays_told, "rows": rows_told, "likings": likings_told, "uppers": uppers_told,
        "blocks": blocks_told, "turn": turn_told, "steps": steps_told, "needs": needs_told, "text": text_told}


class Desk:
    """The ORCHARD and the liking, first, then behind each deed that is done."""

    def __init__(self, orchard):
        self.states = [(orchard, tuple(fruits_of(orchard)))]

    def answer(self, row):
        """The row's answer, `refused` and why where it's refused."""
        try:
            return self.told(row)
        except NoFruit:
            return "refused NoFruit"
        except BadLot:
            return "refused BadLot"
        except NotLiking:
            return "refused NotLiking"
        except NoPlace:
            return "refused NoPlace"
        except Stays:
            return "refused Stays"

    def told(self, row):
        """The row's answer; NoFruit, BadLot, NotLiking, NoPlace, Stays."""
        word, *words = row.split(" ")
        orchard, liking = self.states[-1]
        if word == "undo":
            return self.undone()
        if word in DEEDS:
            deed = DEEDS[word]
            self.states.append(deed(orchard, liking, words))
            return "done"
        ask = ASKS[word]
        return ask(orchard, liking, words)

    def undone(self):
        """`yes` where there was a deed to undo, which is undone, else `no`."""
        if len(self.states) == 1:
            return "no"
        self.states.pop()
        return "yes"
