"""A fruit's turn as it's liked better or worse, the others in their order."""

from ripepicks.blocks import heads
from ripepicks.coming import never_ripe
from ripepicks.errors import NoFruit
from ripepicks.orchards import others, refuse_unknown
from ripepicks.picking import pick, turn_of
from ripepicks.uppers import first_ripe


def placed(liking, fruit, place):
    """The LIKING in which the fruit alone is moved so that just so many are liked better; NoFruit."""
    if fruit not in liking:
        raise NoFruit(fruit)
    rest = others(liking, fruit)
    return (*rest[:place], fruit, *rest[place:])


def steps(orchard, liking, fruit):
    """The list of pairs (turn, other): the fruit goes at the first turn whose other it's liked better than; NoFruit.

    As long as it hangs, the others go as if it were never ripe. Once it's ripe, it goes ahead of the first one that is
    liked less; this is always one that is liked less than all others since.
    """
    refuse_unknown(orchard, fruit)
    row = pick(never_ripe(orchard, fruit), liking)
    many = first_ripe(orchard, row, fruit)
    if many is None:
        return []
    return [*[(row.index(head) + 1, head) for head in heads(liking, row[many:])], (len(row) + 1, None)]


def turn_at(orchard, liking, fruit, place):
    """The fruit's turn when it's placed so, None where it stays; NoFruit."""
    return turn_of(orchard, placed(liking, fruit, place), fruit)


def rearmost(orchard, liking, fruit, turn):
    """The greatest place by which the fruit goes at that turn or sooner, None where by none; NoFruit."""
    rest = others(liking, fruit)
    place = None
    for each, other in steps(orchard, liking, fruit):
        if each <= turn:
            place = len(rest) if other is None else rest.index(other)
    return place
