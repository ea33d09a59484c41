"""Fruits hung anew for a told row: which ones hang ill, and at which price."""

from ripepicks.orchards import has_one_within, hung
from ripepicks.pickings import known


def ill_hung(orchard, liking, row):
    """The rising list of pairs (fruit, "late" or "soon") of fruits that hang so that the picking isn't the row."""
    words = [(fruit, how_ill(lots, known((liking, row), fruit))) for fruit, lots in orchard]
    return [(fruit, word) for fruit, word in words if word is not None]


def how_ill(lots, told):
    """Whether by these LOTs a fruit is ripe too "late" or too "soon" for the pair (by, not_by), None where neither."""
    by, not_by = told
    if by is not None and not has_one_within(lots, by):
        return "late"
    if not_by is not None and has_one_within(lots, not_by):
        return "soon"
    return None


def least_hung(orchard, liking, row, prices):
    """The price of all that hang ill together."""
    price = {fruit: number for fruit, number in prices}
    return sum([price[fruit] for fruit, word in ill_hung(orchard, liking, row)])


def hung_anew(orchard, liking, row):
    """The ORCHARD in which those that hang ill are hung so that the picking is the row."""
    ill = [fruit for fruit, word in ill_hung(orchard, liking, row)]
    return hung([(fruit, lots_for((liking, row), fruit) if fruit in ill else lots) for fruit, lots in orchard])


def lots_for(picking, fruit):
    """The list of the LOT of all ahead of the fruit in the PICKING's row, bare where it isn't in the row."""
    by, not_by = known(picking, fruit)
    return [] if by is None else [by]
