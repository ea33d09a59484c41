"""ORCHARDs as texts, a row for each fruit."""

from ripepicks.errors import BadRow
from ripepicks.names import is_name
from ripepicks.orchards import hangs_by, is_fruit_with_lots, others


def orchard_text(orchard):
    """The ORCHARD's text."""
    return "\n".join(text_rows(orchard))


def text_rows(orchard):
    """The list of the rows of the ORCHARD's text."""
    return [" ".join([f"{fruit}:", *[",".join(lot) or "-" for lot in lots]]) for fruit, lots in orchard]


def orchard_in(text):
    """The ORCHARD of which it's the text; BadRow."""
    return orchard_of(text.split("\n") if text else [])


def orchard_of(rows):
    """The ORCHARD whose text has these rows; BadRow."""
    names = [row.partition(":")[0] for row in rows if ":" in row]
    pairs = []
    for number, row in enumerate(rows):
        if not is_row_behind(pairs, row, names):
            raise BadRow(number)
        pairs.append(pair_in(row))
    return tuple(pairs)


def is_row_behind(pairs, row, names):
    """Whether the row can stand behind the rows of these pairs in the text of an ORCHARD of these fruits."""
    fruit, lots = pair_in(row)
    if not has_colon(row) or not is_fruit_with_lots((fruit, lots)) or not hangs_by(lots, others(names, fruit)):
        return False
    return not pairs or pairs[-1][0] < fruit


def has_colon(row):
    """Whether it has a colon, with nothing or a blank right behind the first one."""
    fruit, colon, rest = row.partition(":")
    return bool(colon) and (not rest or rest.startswith(" "))


def pair_in(row):
    """The pair (fruit, tuple of LOTs) that the row tells, if it's well written."""
    fruit, colon, rest = row.partition(":")
    return (fruit, tuple([lot_in(word) for word in rest.split(" ")[1:]]))


def lot_in(word):
    """The tuple of texts that the word tells, in the order in which they stand there."""
    return () if word == "-" else tuple(word.split(","))


def is_lot_word(word):
    """Whether the word tells NAMEs, in any order."""
    return all([is_name(each) for each in lot_in(word)])
