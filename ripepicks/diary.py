"""A diary of the pickings of an unseen orchard, kept over many deeds that can be undone."""

from ripepicks.between import latest_hung, ripe_by, soonest_hung
from ripepicks.errors import Against, BadDeed, BadPicking, Bare, NoDeed, NoPicking
from ripepicks.names import is_number
from ripepicks.nexts import next_ones, sure_row
from ripepicks.pickings import clash, is_liking_with_row

# Each deed's word, and how long its tuple is.
DEEDS = (("note", 3), ("strike", 2))


def is_deed(thing):
    """Whether it's a deed by its word and how many things stand behind it."""
    return isinstance(thing, (list, tuple)) and len(thing) > 0 and (thing[0], len(thing)) in DEEDS


def is_picking_of(fruits, liking, row):
    """Whether the two things are a PICKING of these fruits, lists and tuples alike."""
    if not isinstance(liking, (list, tuple)) or not isinstance(row, (list, tuple)):
        return False
    return is_liking_with_row(liking, row) and sorted(liking) == list(fruits)


def copied(thing):
    """The same, so that no list or dict in it is one that was handed in."""
    if isinstance(thing, list):
        return [copied(each) for each in thing]
    if isinstance(thing, dict):
        return {key: copied(thing[key]) for key in thing}
    return tuple([copied(each) for each in thing]) if isinstance(thing, tuple) else thing


def done(fruits, state, deed):
    """The pair of the state behind the deed and what the deed tells; BadPicking, Against, NoPicking.

    A state is the pair of the next number and a tuple of the triples (number, liking, row) that stand.
    """
    if deed[0] == "note":
        return noted(fruits, state, deed[1], deed[2])
    return (struck(state, deed[1]), None)


def noted(fruits, state, liking, row):
    """The pair of the state with the picking noted, and its number; BadPicking, Against."""
    if not is_picking_of(fruits, liking, row):
        raise BadPicking((copied(liking), copied(row)))
    number, standing = state
    every = (*standing, (number, tuple(liking), tuple(row)))
    triple = clash(without_numbers(every))
    if triple is not None:
        fruit, one, other = triple
        raise Against((fruit, every[one][0], every[other][0]))
    return ((number + 1, every), number)


def struck(state, number):
    """The state without the picking of this number; NoPicking."""
    coming, standing = state
    left = tuple([triple for triple in standing if triple[0] != number])
    if not is_number(number) or len(left) == len(standing):
        raise NoPicking(copied(number))
    return (coming, left)


def without_numbers(standing):
    """The PICKINGS of triples (number, liking, row)."""
    return [(liking, list(row)) for number, liking, row in standing]


class Diary:
    """Pickings of an unseen orchard of these fruits, by numbers."""

    def __init__(self, fruits):
        self.names = tuple(sorted(fruits))
        # The first one, then one behind each deed that stands. None is ever changed, so diaries may share them.
        self.states = [(0, ())]
        self.ends = []

    def note(self, liking, row):
        """The number of the picking, which stands now; BadPicking, Against."""
        self.ends.append(("in", "note"))
        try:
            return self.one_by_one([("note", liking, row)])[0]
        finally:
            self.ends.append(("out", "note"))

    def strike(self, number):
        """The picking is out; NoPicking."""
        self.ends.append(("in", "strike"))
        try:
            self.one_by_one([("strike", number)])
        finally:
            self.ends.append(("out", "strike"))

    def do(self, deeds, *, whole=True):
        """The list of what the deeds tell, all one deed, or each by itself; BadDeed, then as the first refused."""
        self.ends.append(("in", "do"))
        try:
            for place, deed in enumerate(deeds):
                if not is_deed(deed):
                    raise BadDeed(place)
            return self.all_in_one(deeds) if whole else self.one_by_one(deeds)
        finally:
            self.ends.append(("out", "do"))

    def one_by_one(self, deeds):
        """The list of what the deeds tell, each a deed by itself."""
        told = []
        for deed in deeds:
            state, answer = done(self.names, self.states[-1], deed)
            self.states.append(state)
            told.append(answer)
        return told

    def all_in_one(self, deeds):
        """The list of what the deeds tell, all of them one deed."""
        state = self.states[-1]
        told = []
        for deed in deeds:
            state, answer = done(self.names, state, deed)
            told.append(answer)
        self.states.append(state)
        return told

    def undo(self):
        """Whether there was a deed that stands: the last one is as if it had never been."""
        self.ends.append(("in", "undo"))
        there = self.deeds() > 0
        if there:
            self.states.pop()
        self.ends.append(("out", "undo"))
        return there

    def fruits(self):
        """The rising tuple of the fruits."""
        return self.names

    def pickings(self):
        """The list of triples (number, liking, row) that stand."""
        return [(number, liking, list(row)) for number, liking, row in self.standing()]

    def standing(self):
        """The tuple of triples (number, liking, row) that stand, the row a tuple, too."""
        coming, triples = self.states[-1]
        return triples

    def seen(self):
        """The PICKINGS that stand; Bare."""
        found = without_numbers(self.standing())
        if not found:
            raise Bare(None)
        return found

    def latest(self):
        """The ORCHARD hung latest that has all pickings; Bare."""
        return latest_hung(self.seen())

    def soonest(self):
        """The ORCHARD hung soonest that has all pickings; Bare."""
        return soonest_hung(self.seen())

    def ripe_by(self, fruit, gone):
        """Whether the fruit is ripe by those that are gone: "yes", "no" or "open"; Bare, NoFruit."""
        return ripe_by(self.seen(), fruit, gone)

    def next_of(self, liking):
        """The pair of the next row's sure beginning and of those that go next in some orchards; Bare."""
        found = self.seen()
        return (sure_row(found, liking), next_ones(found, liking))

    def deeds(self):
        """How many deeds stand."""
        return len(self.states) - 1

    def as_of(self, many):
        """A Diary of its own, as behind the first so many deeds, which can be undone there; NoDeed."""
        if not 0 <= many <= self.deeds():
            raise NoDeed(many)
        other = Diary(self.names)
        other.states = self.states[:many + 1]
        return other

    def twin(self):
        """A Diary of its own, as behind all deeds."""
        return self.as_of(self.deeds())

    def log(self):
        """The list of ("in", word) as a deed was begun and ("out", word) as it ended."""
        return list(self.ends)

    def __eq__(self, other):
        return isinstance(other, Diary) and self.names == other.names and self.standing() == other.standing()

    def __len__(self):
        return len(self.standing())

    def __repr__(self):
        return f"Diary({len(self.names)} fruits, {len(self.standing())} pickings)"
