"""ORCHARDs: fruits with the LOTs by which they hang, and which of them are ripe."""

from ripepicks.errors import BadFruit, BadLot, NoFruit, Twice
from ripepicks.lots import is_lot, is_within, least_lots
from ripepicks.names import is_name, rises


def is_orchard(thing):
    """Whether it's an ORCHARD."""
    if not isinstance(thing, tuple) or not all([is_fruit_with_lots(each) for each in thing]):
        return False
    fruits = fruits_of(thing)
    return rises(fruits) and all([hangs_by(lots, others(fruits, fruit)) for fruit, lots in thing])


def is_fruit_with_lots(thing):
    """Whether it's a pair of a NAME and a tuple of LOTs, whichever these are."""
    if not isinstance(thing, tuple) or len(thing) != 2:
        return False
    fruit, lots = thing
    return is_name(fruit) and isinstance(lots, tuple) and all([is_lot(each) for each in lots])


def hangs_by(lots, names):
    """Whether the LOTs rise, none within another one, and have these NAMEs alone."""
    return all([is_within(lot, names) for lot in lots]) and least_lots(lots) == list(lots)


def fruits_of(rows):
    """The list of the first things of some pairs, in their order."""
    return [fruit for fruit, lots in rows]


def others(fruits, fruit):
    """The list of the fruits but this one."""
    return [each for each in fruits if each != fruit]


def made(rows):
    """The ORCHARD of pairs (fruit, list of lists of NAMEs), all in any order; BadFruit, then BadLot."""
    fruits = fruits_of(rows)
    for place, fruit in enumerate(fruits):
        if not is_name(fruit) or fruit in fruits[:place]:
            raise BadFruit(place)
    for place, (fruit, lots) in enumerate(rows):
        if any([is_bad_lot(lot, others(fruits, fruit)) for lot in lots]):
            raise BadLot(place)
    return hung(rows)


def is_bad_lot(texts, names):
    """Whether the list has a text twice, or one that is none of these NAMEs."""
    return len(set(texts)) < len(texts) or not is_within(texts, names)


def hung(rows):
    """The ORCHARD of pairs that are well, in any order, each fruit with its least LOTs."""
    return tuple(sorted([(fruit, least_of(lots)) for fruit, lots in rows]))


def least_of(lots):
    """The rising tuple of the least of some LOTs, their NAMEs in any order."""
    return tuple(least_lots([sorted(lot) for lot in lots]))


def lots_of(orchard, fruit):
    """The tuple of the fruit's LOTs; NoFruit."""
    for each, lots in orchard:
        if each == fruit:
            return tuple([tuple(lot) for lot in lots])
    raise NoFruit(fruit)


def refuse_unknown(orchard, fruit):
    """NoFruit."""
    if fruit not in fruits_of(orchard):
        raise NoFruit(fruit)


def is_ripe(orchard, fruit, gone):
    """Whether the fruit is ripe by those that are gone; NoFruit."""
    return has_one_within(lots_of(orchard, fruit), gone)


def has_one_within(lots, gone):
    """Whether one of the LOTs is within those that are gone."""
    return any([is_within(lot, gone) for lot in lots])


def ripe(orchard, gone):
    """The rising list of fruits that are ripe by those that are gone, and not among them."""
    return [fruit for fruit, lots in orchard if fruit not in gone and has_one_within(lots, gone)]


def gone_from(orchard, names):
    """The ORCHARD of the other fruits as soon as these are gone."""
    return hung([(fruit, [without(lot, names) for lot in lots]) for fruit, lots in orchard if fruit not in names])


def without(lot, names):
    """The list of those of the LOT that are none of these NAMEs."""
    return [name for name in lot if name not in names]


def side_by_side(one, other):
    """The ORCHARD of both; Twice."""
    fruits = fruits_of(other)
    for fruit in fruits_of(one):
        if fruit in fruits:
            raise Twice(fruit)
    return hung([*one, *other])


def called(orchard, names):
    """The ORCHARD whose fruits have the NAMEs that the dict has for them."""
    return hung([(names[fruit], [renamed(lot, names) for lot in lots]) for fruit, lots in orchard])


def renamed(lot, names):
    """The list of what the dict has for each of the LOT."""
    return [names[name] for name in lot]
