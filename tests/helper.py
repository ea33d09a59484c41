"""What several tests need: things of any kind, and plain ways to an answer that go through all cases."""

import copy
import itertools


def subsets(names):
    """All rising tuples of some of the names."""
    rising = sorted(names)
    return [some for size in range(len(rising) + 1) for some in itertools.combinations(rising, size)]


def families(names):
    """All lists of some of the subsets of the names."""
    every = subsets(names)
    return [list(some) for size in range(len(every) + 1) for some in itertools.combinations(every, size)]


def plain_least(lots):
    """The least ones, as [4] says it, each compared with all."""
    sets = {frozenset(lot) for lot in lots}
    return sorted(tuple(sorted(one)) for one in sets if not any(other < one for other in sets))


def plain_meeting(lots):
    """The least ones of all subsets of the names that have one of each."""
    names = {name for lot in lots for name in lot}
    return plain_least([some for some in subsets(names) if all(set(some) & set(lot) for lot in lots)])


def plain_ripe(lots, gone):
    """Whether one of the LOTs is within those that are gone."""
    return any(set(lot) <= set(gone) for lot in lots)


def random_rows(rng, names, most_lots, most_names):
    """Pairs (fruit, list of lists of names) in any order, as made takes them."""
    rows = []
    for fruit in rng.sample(names, len(names)):
        others = [name for name in names if name != fruit]
        sizes = [rng.randint(0, min(most_names, len(others))) for lot in range(rng.randint(0, most_lots))]
        rows.append((fruit, [rng.sample(others, size) for size in sizes]))
    return rows


def in_lists(thing):
    """The same with lists for tuples, at any depth."""
    return [in_lists(each) for each in thing] if isinstance(thing, (list, tuple)) else thing


def in_tuples(thing):
    """The same with tuples for lists, at any depth."""
    return tuple(in_tuples(each) for each in thing) if isinstance(thing, (list, tuple)) else thing


def nested(thing, depth, kinds):
    """The thing in so many tuples and lists, by turns as the kinds are, the first of these innermost."""
    for level in range(depth):
        thing = kinds[level % len(kinds)]([thing])
    return thing


def all_nested(thing, depths):
    """The thing nested so deep, in tuples alone, in lists alone, and by turns."""
    kinds = [(tuple,), (list,), (tuple, list), (list, tuple)]
    return [nested(thing, depth, each) for depth in depths for each in kinds]


def any_things():
    """Things of any kind that are neither a LOT nor an ORCHARD."""
    bare = [0, 1, -3, 10 ** 30, True, False, None, "", "a", "ab", "()", "a" * 9, [], [[]], [()], ([],), ["a"], ["a", "b"]]
    inner = [(each,) for each in (0, 1, True, False, None, "", "A", "a1", "a" * 9, [], ["a"], (), ("a",), ((),))]
    pairs = [("a", each) for each in (0, True, False, None, "", "a", "A", [], ["b"], (), ("b",), ((),))]
    deep = [each for thing in ("a", 1, None, (), [], ("a", ())) for each in all_nested(thing, range(2, 10))]
    return bare + inner + pairs + deep


def check_manners(case, function, given):
    """By place, by name, with lists and with tuples the same is told; nothing handed in is changed or kept."""
    before = copy.deepcopy(given)
    told = function(**given)
    kept = copy.deepcopy(told)
    for other in (in_lists, in_tuples):
        turned = {word: thing if isinstance(thing, dict) else other(thing) for word, thing in given.items()}
        untouched = copy.deepcopy(turned)
        case.assertEqual(function(**turned), kept)
        case.assertEqual(function(*turned.values()), kept)
        case.assertEqual(turned, untouched)
    case.assertEqual(given, before)
    if isinstance(told, list):
        told.append("changed")
        case.assertIsNot(function(**given), function(**given))
    case.assertEqual(function(**given), kept)
    spoil(given)
    case.assertEqual(function(**before), kept)


def spoil(thing):
    """Empties all lists and dicts in it."""
    for each in list(thing.values()) if isinstance(thing, dict) else list(thing):
        if isinstance(each, (list, tuple, dict)):
            spoil(each)
    if isinstance(thing, (list, dict)):
        thing.clear()
