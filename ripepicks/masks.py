"""Fruits and LOTs as bits of numbers, for what goes through many that can be gone."""

from ripepicks.lots import has_part_of, is_within
from ripepicks.orchards import fruits_of, lots_of


class Masks:
    """Some fruits, with LOTs of these alone, each fruit a bit."""

    def __init__(self, rows):
        self.names = fruits_of(rows)
        self.bits = {name: 1 << at for at, name in enumerate(self.names)}
        self.hangings = [(self.bits[fruit], [self.mask_of(lot) for lot in lots]) for fruit, lots in rows]

    def mask_of(self, names):
        """The number with the bits of those of the fruits that are among these."""
        return sum([self.bits[name] for name in self.names if name in names])

    def lot_of(self, mask):
        """The LOT of those whose bits are in the number."""
        return tuple([name for name in self.names if self.bits[name] & mask])

    def ripe_bits(self, gone):
        """The bits of those that are ripe by the ones whose bits are gone, and not among them."""
        return [bit for bit, lots in self.hangings if not bit & gone and has_part_of(lots, gone)]


def among(orchard, names):
    """The list of pairs of those fruits that are among the NAMEs, with those of their LOTs that are within them."""
    return [(fruit, [lot for lot in lots if is_within(lot, names)]) for fruit, lots in orchard if fruit in names]


def behind(orchard, fruit):
    """The list of the fruit, of those in its LOTs, of those in theirs, and so on."""
    found = [fruit]
    at = 0
    while at < len(found):
        names = sorted({name for lot in lots_of(orchard, found[at]) for name in lot})
        found = [*found, *[name for name in names if name not in found]]
        at += 1
    return found


def together(rows):
    """The list of lists of fruits: each has those that hang together, by LOTs of the one that have the other."""
    groups = []
    for fruit, lots in rows:
        linked = [fruit, *[name for lot in lots for name in lot]]
        touched = [group for group in groups if any([name in group for name in linked])]
        groups = [group for group in groups if group not in touched]
        groups.append(sorted({name for group in [linked, *touched] for name in group}))
    return groups
