"""Which fruits ever come, what keeps the others, and how soon and how late one can come."""

from ripepicks.errors import Stays
from ripepicks.lots import is_lot, is_within
from ripepicks.masks import Masks, among, behind
from ripepicks.orchards import fruits_of, others, refuse_unknown, ripe


def comes(orchard):
    """The rising list of fruits that come."""
    gone = []
    ready = ripe(orchard, gone)
    while ready:
        gone = [*gone, *ready]
        ready = ripe(orchard, gone)
    return sorted(gone)


def stays(orchard):
    """The rising list of fruits that don't come."""
    coming = comes(orchard)
    return [fruit for fruit in fruits_of(orchard) if fruit not in coming]


def shows_stay(orchard, fruit, thing):
    """Whether it's a LOT of fruits, this one among them, such that each LOT of each of these has one of them."""
    if not is_lot(thing) or fruit not in thing or not is_within(thing, fruits_of(orchard)):
        return False
    lots = [lot for each, hanging in orchard if each in thing for lot in hanging]
    return all([any([name in thing for name in lot]) for lot in lots])


def refuse_staying(orchard, fruit):
    """NoFruit, then Stays."""
    refuse_unknown(orchard, fruit)
    if fruit not in comes(orchard):
        raise Stays(fruit)


def never_ripe(orchard, fruit):
    """The list of the orchard's pairs, but this fruit without LOTs."""
    return [(each, () if each == fruit else lots) for each, lots in orchard]


def needs(orchard, fruit):
    """The rising list of those other fruits without which it wouldn't come; NoFruit, Stays."""
    refuse_staying(orchard, fruit)
    return [each for each in others(fruits_of(orchard), fruit) if fruit not in comes(never_ripe(orchard, each))]


def soonest(orchard, fruit):
    """The pair of its least turn and the first LOT that can be just those ahead of it then; NoFruit, Stays."""
    refuse_staying(orchard, fruit)
    coming = among(orchard, comes(orchard))
    # The fewest ahead of it are all of use to it: others aren't gone through.
    masks = Masks(among(coming, behind(coming, fruit)))
    last = masks.mask_of([fruit])
    gone = [0]
    ahead = []
    while not ahead:
        gone = sorted({mask | bit for mask in gone for bit in masks.ripe_bits(mask)})
        ahead = [mask ^ last for mask in gone if mask & last]
    lot = min([masks.lot_of(mask) for mask in ahead])
    return (len(lot) + 1, lot)


def latest(orchard, fruit):
    """Its greatest turn; NoFruit, Stays."""
    refuse_staying(orchard, fruit)
    return len(comes(never_ripe(orchard, fruit))) + 1
