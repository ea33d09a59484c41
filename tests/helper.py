"""What several tests need: things of any kind, and plain ways to an answer that go through all cases."""

import copy
import itertools
import random

ANY_TEXTS = ["", "apple", "fi", "figs", "Fig", "fig ", "abcdefghi", "\u00e9", "fig,lime", "\n"]
TWELVE = "abcdefghijkl"
GREATEST = "abcdefghijklmnopqrstuvwx"

# The fig and the lime from the first on, the kaki never, the nut by the lime, the pear by fig and nut.
GROVE = (("fig", ((),)), ("kaki", ()), ("lime", ((),)), ("nut", (("kaki",), ("lime",))), ("pear", (("fig", "nut"),)))
ROW = ["lime", "nut", "fig", "pear"]
LIKING = ("pear", "kaki", "nut", "lime", "fig")
BAD_ROWS = [[], ["lime"], ["lime", "nut", "fig"], ["nut", "lime", "fig", "pear"], [*ROW, "kaki"], [*ROW, "lime"], ["plum"],
            ["lime", "lime", "nut", "fig", "pear"], ["", "x y", "lime"], ["lime", "nut", "fig", "plum"]]


def subsets(names):
    """All rising tuples of some of the names."""
    rising = sorted(names)
    return [some for size in range(len(rising) + 1) for some in itertools.combinations(rising, size)]


def families(names):
    """All lists of some of the subsets of the names."""
    every = subsets(names)
    return [list(some) for size in range(len(every) + 1) for some in itertools.combinations(every, size)]


def plain_least(lots):
    """The least ones, as [4] says it, each compared with all."""
    sets = {frozenset(lot) for lot in lots}
    return sorted(tuple(sorted(one)) for one in sets if not any(other < one for other in sets))


def plain_meeting(lots):
    """The least ones of all subsets of the names that have one of each."""
    names = {name for lot in lots for name in lot}
    return plain_least([some for some in subsets(names) if all(set(some) & set(lot) for lot in lots)])


def plain_ripe(lots, gone):
    """Whether one of the LOTs is within those that are gone."""
    return any(set(lot) <= set(gone) for lot in lots)


def random_rows(rng, names, most_lots, most_names):
    """Pairs (fruit, list of lists of names) in any order, as made takes them."""
    rows = []
    for fruit in rng.sample(names, len(names)):
        others = [name for name in names if name != fruit]
        sizes = [rng.randint(0, min(most_names, len(others))) for lot in range(rng.randint(0, most_lots))]
        rows.append((fruit, [rng.sample(others, size) for size in sizes]))
    return rows


def coming_rows(rng, names, most_lots, most_names):
    """The same, but most fruits have a LOT of such that can go ahead of them, so that most come, in many orders."""
    order = rng.sample(names, len(names))
    rows = []
    for at, fruit in enumerate(order):
        ahead = order[:at] if rng.random() < 0.9 else order[:at] + order[at + 1:]
        sizes = [rng.randint(0 if at < 2 else 1, min(most_names, len(ahead))) if ahead else 0
                 for lot in range(rng.randint(1, most_lots))]
        rows.append((fruit, [rng.sample(ahead, size) for size in sizes]))
    return rng.sample(rows, len(rows))


def plain_orchard(rows):
    """The ORCHARD of the pairs."""
    return tuple(sorted((fruit, tuple(plain_least(lots))) for fruit, lots in rows))


def all_orchards(names):
    """All ORCHARDs of these fruits."""
    ways = []
    for name in sorted(names):
        others = [each for each in names if each != name]
        ways.append([(name, tuple(family)) for family in map(sorted, families(others)) if plain_least(family) == family])
    return list(itertools.product(*ways))


def small_orchards(seed, many):
    """All ORCHARDs of at most three fruits, and so many of four and five."""
    rng = random.Random(seed)
    found = [orchard for size in range(4) for orchard in all_orchards("abc"[:size])]
    for round_ in range(many):
        names = ["a", "b", "cc", "d", "zz"][:rng.randint(4, 5)]
        rows = rng.choice([random_rows, coming_rows, coming_rows])(rng, names, 3, 3)
        found.append(plain_orchard(rows))
    return found


def fruits_in(orchard):
    """Its fruits."""
    return [fruit for fruit, lots in orchard]


def ready_by(orchard, gone):
    """The fruits that are ripe by these and not among them."""
    return [fruit for fruit, lots in orchard if fruit not in gone and plain_ripe(lots, gone)]


def all_rows(orchard, gone=()):
    """All rows, as lists rise, that begin with those that are gone."""
    ready = ready_by(orchard, gone)
    if not ready:
        return [list(gone)]
    return [row for fruit in ready for row in all_rows(orchard, (*gone, fruit))]


def plain_pick(orchard, liking):
    """The row: of those that are ripe the best liked goes."""
    row = []
    while ready := ready_by(orchard, row):
        row.append(next(fruit for fruit in liking if fruit in ready))
    return row


def all_likings(orchard):
    """All LIKINGs, as tuples rise."""
    return list(itertools.permutations(fruits_in(orchard)))


def leading(orchard):
    """For each row, as a tuple, the list of all LIKINGs whose picking it is, as tuples rise."""
    found = {}
    for liking in all_likings(orchard):
        found.setdefault(tuple(plain_pick(orchard, liking)), []).append(liking)
    return found


def in_lists(thing):
    """The same with lists for tuples, at any depth."""
    return [in_lists(each) for each in thing] if isinstance(thing, (list, tuple)) else thing


def in_tuples(thing):
    """The same with tuples for lists, at any depth."""
    return tuple(in_tuples(each) for each in thing) if isinstance(thing, (list, tuple)) else thing


def all_pickings(names):
    """All PICKINGs of these fruits."""
    rows = [list(row) for size in range(len(names) + 1) for row in itertools.permutations(names, size)]
    return [(liking, list(row)) for liking in itertools.permutations(names) for row in rows]


class Unseen:
    """All ORCHARDs of few fruits, and which of them have which PICKINGs."""

    def __init__(self, names):
        self.names = sorted(names)
        self.orchards = all_orchards(names)
        self.having = {}
        for at, orchard in enumerate(self.orchards):
            for liking in itertools.permutations(names):
                self.having.setdefault((liking, tuple(plain_pick(orchard, liking))), set()).add(at)

    def with_all(self, pickings):
        """The list of those ORCHARDs that have all of them."""
        sets = [self.having.get((tuple(liking), tuple(row)), set()) for liking, row in pickings]
        return [self.orchards[at] for at in sorted(set.intersection(*sets))]

    def samples(self, seed, many):
        """Lists of one or more PICKINGs: each one alone, each two, and so many of more, most of one ORCHARD."""
        every = all_pickings(self.names)
        yield from [[one] for one in every]
        yield from [[one, other] for one in every for other in every]
        rng = random.Random(seed)
        for round_ in range(many):
            orchard = rng.choice(self.orchards)
            likings = [tuple(rng.sample(self.names, len(self.names))) for each in range(rng.randint(3, 6))]
            pickings = [(liking, plain_pick(orchard, liking)) for liking in likings]
            if rng.random() < 0.6:
                pickings[rng.randrange(len(pickings))] = rng.choice(every)
            yield pickings


def some_unseen():
    """Unseen ORCHARDs of none to three fruits."""
    return [Unseen(["cc", "a", "b"][:size]) for size in range(4)]


def variants(thing):
    """Things much like it: each part, at any depth, of another kind, left out or there twice."""
    found = [None, True, False, 0, 1, 2, -1, "", "a", "A", "zz", [], (), ["a"], ("a",), [[]], ((),), ["a", "b"]]
    if isinstance(thing, (list, tuple)):
        found += [list(thing), tuple(thing), [*thing, *thing]]
        for at, part in enumerate(thing):
            found += [thing[:at] + thing[at + 1:], thing[:at + 1] + thing[at:]]
            found += [type(thing)([*thing[:at], each, *thing[at + 1:]]) for each in variants(part)]
    return found


def nested(thing, depth, kinds):
    """The thing in so many tuples and lists, by turns as the kinds are, the first of these innermost."""
    for level in range(depth):
        thing = kinds[level % len(kinds)]([thing])
    return thing


def all_nested(thing, depths):
    """The thing nested so deep, in tuples alone, in lists alone, and by turns."""
    kinds = [(tuple,), (list,), (tuple, list), (list, tuple)]
    return [nested(thing, depth, each) for depth in depths for each in kinds]


def any_things():
    """Things of any kind that are neither a LOT nor an ORCHARD."""
    bare = [0, 1, -3, 10 ** 30, True, False, None, "", "a", "ab", "()", "a" * 9, [], [[]], [()], ([],), ["a"], ["a", "b"]]
    inner = [(each,) for each in (0, 1, True, False, None, "", "A", "a1", "a" * 9, [], ["a"], (), ("a",), ((),))]
    pairs = [("a", each) for each in (0, True, False, None, "", "a", "A", [], ["b"], (), ("b",), ((),))]
    deep = [each for thing in ("a", 1, None, (), [], ("a", ())) for each in all_nested(thing, range(2, 10))]
    return bare + inner + pairs + deep


def check_manners(case, function, given):
    """By place, by name, with lists and with tuples (but in thing) the same is told, each time the asker's own.

    Nothing that is handed in is changed or kept. What is handed in is emptied behind.
    """
    before = copy.deepcopy(given)
    told = function(**given)
    kept = copy.deepcopy(told)
    for other in (in_lists, in_tuples):
        turned = {word: thing if word == "thing" or isinstance(thing, dict) else other(thing)
                  for word, thing in given.items()}
        untouched = copy.deepcopy(turned)
        check_same(case, function(**turned), kept)
        check_same(case, function(*turned.values()), kept)
        check_same(case, turned, untouched)
    check_same(case, given, before)
    again = function(**given)
    lists = [*lists_in(told), *lists_in(again), *lists_in(list(given.values()))]
    case.assertEqual(len({id(each) for each in lists}), len(lists))
    spoil([told])
    check_same(case, again, kept)
    spoil(given)
    check_same(case, again, kept)
    check_same(case, function(**before), kept)


def check_same(case, told, due):
    """The same, and of the same kind at any depth: a list is no tuple, True is no number."""
    case.assertEqual(repr(told), repr(due))


def check_refused(case, error, what, function, given, told=False):
    """Refused with the error's very class and what, by place and by name, with lists and with tuples; all unchanged.

    What isn't handed in but told is of the same kinds, whatever is handed in.
    """
    for other in (copy.deepcopy, in_lists, in_tuples):
        turned = {word: other(thing) for word, thing in given.items()}
        untouched = copy.deepcopy(turned)
        due = what if told else other(what)
        for ask in (lambda: function(**turned), lambda: function(*turned.values())):
            with case.assertRaises(error) as caught:
                ask()
            case.assertIs(type(caught.exception), error)
            check_same(case, caught.exception.what, due)
            check_same(case, turned, untouched)


def check_refused_row_not_kept(case, error, function, orchard):
    """What the refusal has doesn't change with the row that was handed in."""
    row = ["zz", "yy"]
    with case.assertRaises(error) as caught:
        function(orchard, row)
    row.append("xx")
    case.assertEqual(caught.exception.what, ["zz", "yy"])


def lists_in(thing):
    """All lists in it, itself too, each as often as it's there."""
    inner = [each for part in thing for each in lists_in(part)] if isinstance(thing, (list, tuple)) else []
    return [thing, *inner] if isinstance(thing, list) else inner


def spoil(thing):
    """Empties all lists and dicts in it."""
    for each in list(thing.values()) if isinstance(thing, dict) else list(thing):
        if isinstance(each, (list, tuple, dict)):
            spoil(each)
    if isinstance(thing, (list, dict)):
        thing.clear()
