"""Pickings: as long as some fruits are ripe, the best liked of these goes."""

from ripepicks.orchards import fruits_of, others, refuse_unknown, ripe


def is_liking(orchard, thing):
    """Whether it's a LIKING of the ORCHARD."""
    fruits = fruits_of(orchard)
    return isinstance(thing, tuple) and len(thing) == len(fruits) and all([fruit in thing for fruit in fruits])


def pick(orchard, liking):
    """The row in which the fruits go."""
    return [fruit for fruit, passed in passed_by(orchard, liking)]


def passed_by(orchard, liking):
    """The list, pick by pick, of pairs (fruit that goes, rising list of the others that were ripe)."""
    picks = []
    gone = []
    ready = ripe(orchard, gone)
    while ready:
        best = min(ready, key=lambda fruit: liking.index(fruit))
        picks.append((best, others(ready, best)))
        gone.append(best)
        ready = ripe(orchard, gone)
    return picks


def turn_of(orchard, liking, fruit):
    """The fruit's turn, from 1, or None where it stays; NoFruit."""
    refuse_unknown(orchard, fruit)
    row = pick(orchard, liking)
    return row.index(fruit) + 1 if fruit in row else None
