"""Which LIKINGs lead to a ROW: how many there are, and each by its number."""

from ripepicks.counting import factorial, number_in, sequence_at
from ripepicks.errors import Astray, NoLiking
from ripepicks.orchards import fruits_of
from ripepicks.uppers import chain, uppers


def leads(orchard, row, liking):
    """Whether the LIKING's picking is the row; NotRow."""
    return astray(orchard, row, liking) is None


def astray(orchard, row, liking):
    """The first pair of uppers whose fruit is liked less, None where there's none; NotRow."""
    for fruit, upper in uppers(orchard, row):
        if upper is not None and liking.index(upper) < liking.index(fruit):
            return (fruit, upper)
    return None


def likings_many(orchard, row):
    """How many LIKINGs lead to the row; NotRow."""
    return orders_many(dict(uppers(orchard, row)), fruits_of(orchard))


def liking_at(orchard, row, number):
    """The LIKING of this number of those that lead to the row, as tuples rise; NotRow, NoLiking."""
    upper = dict(uppers(orchard, row))
    fruits = fruits_of(orchard)
    if not 0 <= number < orders_many(upper, fruits):
        raise NoLiking(number)
    return tuple(sequence_at(number,
                             lambda begun: best_liked(upper, not_begun(fruits, begun)),
                             lambda begun: orders_many(upper, not_begun(fruits, begun))))


def liking_number(orchard, row, liking):
    """The number of the LIKING of those that lead to the row; NotRow, Astray."""
    pair = astray(orchard, row, liking)
    if pair is not None:
        raise Astray(pair)
    upper = dict(uppers(orchard, row))
    fruits = fruits_of(orchard)
    return number_in(liking,
                     lambda begun: best_liked(upper, not_begun(fruits, begun)),
                     lambda begun: orders_many(upper, not_begun(fruits, begun)))


def not_begun(fruits, begun):
    """The list of the fruits that don't stand at the liking's beginning."""
    return [fruit for fruit in fruits if fruit not in begun]


def best_liked(upper, fruits):
    """The list of those of the fruits left that can be liked best: the uppers of none of them."""
    worse = [upper.get(fruit) for fruit in fruits]
    return [fruit for fruit in fruits if fruit not in worse]


def orders_many(upper, fruits):
    """In how many orders the fruits left can be liked.

    Whoever is left has its upper left, so they stand in trees, the uppers on top. The top of a tree is
    liked least of it: so it is in one of as many orders as the tree has fruits, however the others stand.
    """
    trees = [each for fruit in fruits for each in [fruit, *chain(upper, fruit)]]
    many = factorial(len(fruits))
    for fruit in fruits:
        many //= trees.count(fruit)
    return many
