"""ROWs: the orders in which all fruits that come can go, how many there are, and each by its number."""

from ripepicks.coming import comes
from ripepicks.counting import factorial, number_in, sequence_at
from ripepicks.errors import NoRow, NotRow
from ripepicks.masks import Masks, among, together
from ripepicks.orchards import ripe


class Part:
    """Fruits that come and hang together, and in how many orders they can go on."""

    def __init__(self, rows):
        self.masks = Masks(rows)
        self.counted = {}

    def left(self, gone):
        """How many of its fruits aren't gone."""
        return len([name for name in self.masks.names if name not in gone])

    def orders(self, gone):
        """In how many orders its other fruits can go on behind those that are gone."""
        return self.orders_behind(self.masks.mask_of(gone))

    def orders_behind(self, mask):
        """The same of those whose bits are gone, each kept as it's found: many orders come by the same ones."""
        if mask not in self.counted:
            ready = self.masks.ripe_bits(mask)
            self.counted[mask] = sum([self.orders_behind(mask | bit) for bit in ready]) if ready else 1
        return self.counted[mask]


def parts_of(orchard):
    """The list of the Parts of all fruits that come."""
    coming = among(orchard, comes(orchard))
    return [Part(among(coming, names)) for names in together(coming)]


def many_behind(parts, gone):
    """In how many orders all fruits of the Parts can go on behind those that are gone."""
    many = factorial(sum([part.left(gone) for part in parts]))
    for part in parts:
        # The places of a Part's fruits are free among all, their order isn't.
        many = many // factorial(part.left(gone)) * part.orders(gone)
    return many


def is_row(orchard, thing):
    """Whether it's a ROW of the ORCHARD."""
    return isinstance(thing, list) and is_going(orchard, thing)


def is_going(orchard, things):
    """Whether these, in a list or a tuple, go one behind the other, each ripe by those ahead, till none is ripe."""
    gone = []
    for each in things:
        if each not in ripe(orchard, gone):
            return False
        gone.append(each)
    return not ripe(orchard, gone)


def row_of(orchard, row):
    """The ROW as a list of its own; NotRow."""
    if not is_going(orchard, row):
        raise NotRow(row[:])
    return list(row)


def rows_many(orchard):
    """How many ROWs there are."""
    return many_behind(parts_of(orchard), [])


def row_at(orchard, number):
    """The ROW of this number, as lists rise; NoRow."""
    parts = parts_of(orchard)
    if not 0 <= number < many_behind(parts, []):
        raise NoRow(number)
    return sequence_at(number,
                       lambda gone: ripe(orchard, gone),
                       lambda gone: many_behind(parts, gone))


def number_of(orchard, row):
    """The number of the ROW; NotRow."""
    parts = parts_of(orchard)
    return number_in(row_of(orchard, row),
                     lambda gone: ripe(orchard, gone),
                     lambda gone: many_behind(parts, gone))
