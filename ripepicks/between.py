"""All ORCHARDs that have some PICKINGS: those between the one hung latest and the one hung soonest."""

from ripepicks.errors import Clash, NoFruit
from ripepicks.lots import is_within, meeting
from ripepicks.orchards import has_one_within, hung, others, without
from ripepicks.pickings import clash, fruits_in, known


def refuse_clash(pickings):
    """Clash."""
    triple = clash(pickings)
    if triple is not None:
        raise Clash(triple)


def all_by(pickings, fruit):
    """The list of all LOTs by which the fruit was ripe."""
    told = [known(picking, fruit) for picking in pickings]
    return [by for by, not_by in told if by is not None]


def all_not_by(pickings, fruit):
    """The list of all LOTs by which the fruit wasn't ripe."""
    told = [known(picking, fruit) for picking in pickings]
    return [not_by for by, not_by in told if not_by is not None]


def latest_hung(pickings):
    """The ORCHARD where each fruit has the least LOTs of all its by's; Clash."""
    refuse_clash(pickings)
    return hung([(fruit, all_by(pickings, fruit)) for fruit in fruits_in(pickings)])


def soonest_hung(pickings):
    """The ORCHARD where each has the least LOTs of other fruits that lie within no not_by of its own; Clash."""
    refuse_clash(pickings)
    fruits = fruits_in(pickings)
    return tuple([(fruit, least_outside(others(fruits, fruit), all_not_by(pickings, fruit))) for fruit in fruits])


def least_outside(names, lots):
    """The rising tuple of the least LOTs of these NAMEs that lie within none of the LOTs.

    Each of them has one of those NAMEs that a LOT hasn't, of each of the LOTs.
    """
    return tuple(meeting([without(names, lot) for lot in lots]))


def ripe_by(pickings, fruit, gone):
    """Whether the fruit is ripe by those that are gone in each such ORCHARD, "yes", in none, "no"; NoFruit, Clash."""
    fruits = fruits_in(pickings)
    if fruit not in fruits:
        raise NoFruit(fruit)
    refuse_clash(pickings)
    there = [name for name in others(fruits, fruit) if name in gone]
    if has_one_within(all_by(pickings, fruit), there):
        return "yes"
    return "no" if any([is_within(there, lot) for lot in all_not_by(pickings, fruit)]) else "open"
