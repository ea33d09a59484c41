"""Likings moved for a told row: the least price, and rows of strife that show it."""

from ripepicks.lots import as_lot, is_within
from ripepicks.names import is_number
from ripepicks.orchards import fruits_of, others
from ripepicks.uppers import chain, uppers


class Strife:
    """A ROW's fruits, in its order: the price of each, and those above it that are liked better; NotRow."""

    def __init__(self, orchard, row, liking, prices):
        upper = dict(uppers(orchard, row))
        self.ranks = {fruit: at for at, fruit in enumerate(liking)}
        self.better = {fruit: [each for each in chain(upper, fruit) if self.ranks[each] < self.ranks[fruit]]
                       for fruit in upper}
        self.prices = {fruit: price for fruit, price in prices}

    def is_pair(self, thing):
        """Whether it's a pair of an amount and a row of strife."""
        if not isinstance(thing, tuple) or len(thing) != 2:
            return False
        amount, fruits = thing
        return is_number(amount) and amount >= 1 and self.is_in_strife(fruits)

    def is_in_strife(self, thing):
        """Whether it's a list of one or more of the ROW, each next one above the one ahead and liked better."""
        if not isinstance(thing, list) or not thing or not is_within(thing, list(self.better)):
            return False
        return all([other in self.better[one] for one, other in zip(thing, thing[1:])])

    def fewest(self, fruits):
        """The pairs of least amounts together in which each of some fruits, in the ROW's order, has its price."""
        pairs = []
        for fruit in fruits:
            pairs = self.lengthened(pairs, fruit)
        return pairs

    def lengthened(self, pairs, fruit):
        """The pairs with the fruit, those that are lengthened by it first being the ones that fewest others lengthen.

        All that are above it are above its whole tree: so which of them can still lengthen a row hangs only on how
        well the row's last fruit is liked, and no choice is better than that of the best liked last ones.
        """
        due = self.prices[fruit]
        longer = []
        for amount, fruits in sorted(pairs, key=lambda pair: self.ranks[pair[1][-1]]):
            taken = min(amount, due) if fruit in self.better[fruits[-1]] else 0
            due -= taken
            if taken:
                longer.append((taken, [*fruits, fruit]))
            if taken < amount:
                longer.append((amount - taken, fruits))
        return [*longer, (due, [fruit])] if due else longer

    def worth(self, fruits):
        """The greatest price of some of these fruits, in the ROW's order, no two of which are at strife."""
        return sum([amount for amount, names in self.fewest(fruits)])

    def dearest(self):
        """The list of fruits of the greatest price of which no two are at strife."""
        kept = []
        left = list(self.better)
        while left:
            fruit = left[0]
            # Whoever is above it stands behind it in the row.
            free = [each for each in left[1:] if each not in self.better[fruit]]
            if self.prices[fruit] + self.worth(free) == self.worth(left):
                kept.append(fruit)
                left = free
            else:
                left = left[1:]
        return kept


def least_moved(orchard, row, liking, prices):
    """The triple of the least price, a LOT of fruits moved at it, and rows of strife that show it; NotRow."""
    strife = Strife(orchard, row, liking, prices)
    kept = strife.dearest()
    moved = [fruit for fruit in strife.better if fruit not in kept]
    return (sum([strife.prices[fruit] for fruit in moved]), as_lot(moved), strife.fewest(list(strife.better)))


def shows_price(orchard, row, liking, prices, price, thing):
    """Whether it's a list of pairs by which no price less than this one does; NotRow."""
    strife = Strife(orchard, row, liking, prices)
    if not isinstance(thing, list) or not all([strife.is_pair(each) for each in thing]):
        return False
    for fruit in strife.better:
        if sum([amount for amount, fruits in thing if fruit in fruits]) < strife.prices[fruit]:
            return False
    every = sum([strife.prices[fruit] for fruit in strife.better])
    return every - sum([amount for amount, fruits in thing]) >= price


def moved_liking(orchard, row, liking, names):
    """The first LIKING that leads to the row, in which all but these stand in their order, or None; NotRow."""
    kept = [fruit for fruit in liking if fruit not in names]
    pairs = [*uppers(orchard, row), *list(zip(kept, kept[1:]))]
    left = fruits_of(orchard)
    begun = []
    while left:
        worse = [other for one, other in pairs if one in left]
        ready = [fruit for fruit in left if fruit not in worse]
        if not ready:
            return None
        begun.append(ready[0])
        left = others(left, ready[0])
    return tuple(begun)
