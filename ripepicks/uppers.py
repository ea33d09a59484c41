"""Who was passed over for whom: a fruit's upper in a ROW, and those above it."""

from ripepicks.orchards import is_ripe, refuse_unknown
from ripepicks.rows import row_of


def ripe_from(orchard, row):
    """The list, in the row's order, of pairs (fruit, how many were gone as it was ripe first); NotRow."""
    names = row_of(orchard, row)
    return [(fruit, first_ripe(orchard, names, fruit)) for fruit in names]


def first_ripe(orchard, row, fruit):
    """How many of the row are gone as the fruit is ripe first, None where it never is."""
    for many in range(len(row) + 1):
        if is_ripe(orchard, fruit, row[:many]):
            return many
    return None


def uppers(orchard, row):
    """The list, in the row's order, of pairs (fruit, its upper, or None); NotRow."""
    since = ripe_from(orchard, row)
    return [(fruit, first_since(since[at + 1:], at)) for at, (fruit, number) in enumerate(since)]


def first_since(later, many):
    """The first fruit of the pairs (fruit, number) that was ripe as so many were gone, None where there's none."""
    for fruit, number in later:
        if number <= many:
            return fruit
    return None


def above(orchard, row, fruit):
    """The list of the fruit's upper, of that one's, and so on; NoFruit, NotRow."""
    refuse_unknown(orchard, fruit)
    return chain(dict(uppers(orchard, row)), fruit)


def chain(upper, fruit):
    """The list of what the dict has for the fruit, for that one, and so on."""
    found = []
    each = upper.get(fruit)
    while each is not None:
        found.append(each)
        each = upper.get(each)
    return found


def is_sure(orchard, row, one, other):
    """Whether in each LIKING that leads to the row the one is liked better than the other; NoFruit, NotRow."""
    refuse_unknown(orchard, one)
    refuse_unknown(orchard, other)
    return other in above(orchard, row, one)
