"""PICKINGS of an orchard that nobody has seen: what is known by them, and whether they can be of one."""

from ripepicks.errors import NoFruit
from ripepicks.lots import as_lot, is_within
from ripepicks.names import is_name, is_number
from ripepicks.picking import pick


def is_pickings(thing):
    """Whether they are PICKINGS."""
    if not isinstance(thing, list) or not thing or not all([is_picking(each) for each in thing]):
        return False
    fruits = fruits_in(thing)
    return all([sorted(liking) == fruits for liking, row in thing])


def is_picking(thing):
    """Whether it's a PICKING."""
    if not isinstance(thing, tuple) or len(thing) != 2:
        return False
    liking, row = thing
    return isinstance(liking, tuple) and isinstance(row, list) and is_liking_with_row(liking, row)


def is_liking_with_row(liking, row):
    """Whether the one, a list or tuple, has unlike NAMEs, and the other unlike ones of these."""
    return all([is_name(each) for each in liking]) and is_within(row, liking) and is_unlike(liking) and is_unlike(row)


def is_unlike(names):
    """Whether none of the NAMEs is there twice."""
    return len(set(names)) == len(names)


def fruits_in(pickings):
    """The rising list of the fruits of the PICKINGS."""
    liking, row = pickings[0]
    return sorted(liking)


def known(picking, fruit):
    """The pair (by, not_by) of LOTs by which the fruit was ripe and wasn't, None where there's none such; NoFruit."""
    liking, row = picking
    if fruit not in liking:
        raise NoFruit(fruit)
    if fruit not in row:
        return (None, as_lot(row))
    ahead = row[:row.index(fruit)]
    worse = [at for at, each in enumerate(ahead) if liking.index(fruit) < liking.index(each)]
    return (as_lot(ahead), as_lot(ahead[:worse[-1]]) if worse else None)


def is_clash(one, other):
    """Whether the by of the one pair (by, not_by) is within the not_by of the other."""
    by = one[0]
    not_by = other[1]
    return by is not None and not_by is not None and is_within(by, not_by)


def clash(pickings):
    """The first triple (fruit, one, other) that shows that no ORCHARD has all of the PICKINGS, None where one has."""
    for fruit in fruits_in(pickings):
        told = [known(picking, fruit) for picking in pickings]
        for one, pair in enumerate(told):
            for other, against in enumerate(told):
                if is_clash(pair, against):
                    return (fruit, one, other)
    return None


def shows_clash(pickings, thing):
    """Whether it's a triple that shows that no ORCHARD has all of the PICKINGS."""
    if not isinstance(thing, tuple) or len(thing) != 3:
        return False
    fruit, one, other = thing
    if fruit not in fruits_in(pickings) or not all([is_place(each, pickings) for each in (one, other)]):
        return False
    return is_clash(known(pickings[one], fruit), known(pickings[other], fruit))


def is_place(thing, pickings):
    """Whether it's the number of one of the PICKINGS."""
    return is_number(thing) and 0 <= thing < len(pickings)


def is_of(pickings, orchard):
    """Whether each of the PICKINGS is of the ORCHARD."""
    return all([pick(orchard, liking) == list(row) for liking, row in pickings])
