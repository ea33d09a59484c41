"""LOTs: rising tuples of unlike NAMEs, which one lies within which, and what meets all of some."""

from ripepicks.names import is_name, rises


def is_lot(thing):
    """Whether it's a LOT."""
    return isinstance(thing, tuple) and all([is_name(each) for each in thing]) and rises(thing)


def as_lot(names):
    """The LOT of unlike NAMEs in any order."""
    return tuple(sorted(names))


def is_within(one, other):
    """Whether all of the one LOT are in the other."""
    return all([name in other for name in one])


def least_lots(lots):
    """The rising list of those within which no other one of them lies, each once."""
    bits = bits_of(lots)
    least = []
    masks = []
    # Only a shorter LOT, or the same one again, can lie within one.
    for lot in sorted([tuple(each) for each in lots], key=len):
        mask = sum([bits[name] for name in lot])
        if not has_part_of(masks, mask):
            least.append(lot)
            masks.append(mask)
    return sorted(least)


def bits_of(lots):
    """A bit for each NAME: a meeting can have thousands of LOTs, and numbers are compared soonest."""
    names = sorted({name for lot in lots for name in lot})
    return {name: 1 << at for at, name in enumerate(names)}


def has_part_of(masks, mask):
    """Whether all bits of one of the masks are in this mask."""
    for each in masks:
        if each & mask == each:
            return True
    return False


def meeting(lots):
    """The rising list of the least LOTs that have at least one of each of these."""
    # As they rise, LOTs that are much alike stand together: far fewer are found on the way.
    rising = sorted([tuple(lot) for lot in lots])
    met = met_by(rising)
    found = [()]
    for at, lot in enumerate(rising):
        found = met_too(found, lot, at, met)
    return sorted([as_lot(names) for names in found])


def met_by(lots):
    """For each NAME the number whose bits are the places of the LOTs that have it."""
    met = {}
    for at, lot in enumerate(lots):
        for name in lot:
            met[name] = met.get(name, 0) | (1 << at)
    return met


def met_too(found, lot, at, met):
    """Of the least ones that meet all LOTs ahead of this place: those that meet the LOT there, too.

    No two of them come out alike: one that is made longer shares its last NAME alone with the LOT.
    """
    upto = (1 << (at + 1)) - 1
    longer = []
    for names in found:
        if any([name in lot for name in names]):
            longer.append(names)
        else:
            tried = [(*names, name) for name in lot]
            longer.extend([each for each in tried if none_spare(each, upto, met)])
    return longer


def none_spare(names, upto, met):
    """Whether each of the NAMEs is the only one of them in some LOT, of those whose bits are in upto."""
    once = 0
    again = 0
    for name in names:
        again |= once & met[name]
        once |= met[name]
    alone = (once ^ again) & upto
    return all([met[name] & alone for name in names])
