"""[18], [19] and [1] (g): class Diary."""

import copy
import itertools
import random
import unittest
import unittest.mock

from ripepicks.between import latest_hung, ripe_by, soonest_hung
from ripepicks.diary import Diary
from ripepicks.errors import Against, BadDeed, BadPicking, Bare, NoDeed, NoFruit, NoPicking
from ripepicks.nexts import next_ones, sure_row
from ripepicks.orchards import made
from ripepicks.pickings import clash
from tests.helper import (ANY_TEXTS, GREATEST, all_likings, all_nested, all_orchards, all_pickings, any_things, check_refused,
                          check_same, coming_rows, in_lists, in_tuples, lists_in, plain_pick, random_rows, spoil, variants)

NUMBERS = [-10 ** 30, -2, -1, 0, 1, 2, 3, 48, 10 ** 30]
AB = ("a", "b")
BA = ("b", "a")
TEN = GREATEST[:10]


class Plain:
    """What a diary must tell, each time found anew from the deeds that stand, each a list of steps."""

    def __init__(self, names):
        self.names = tuple(sorted(names))
        self.deeds = []
        self.log = []

    def state(self, more=()):
        """The next number, and the dict of pickings that stand, behind all deeds and some more steps."""
        coming, standing = 0, {}
        for step in [*itertools.chain(*self.deeds), *more]:
            if step[0] == "note":
                standing[coming] = (tuple(step[1]), list(step[2]))
                coming += 1
            else:
                del standing[step[1]]
        return coming, standing

    def refusal(self, steps, last):
        """What is due of the last step behind these steps: a pair (class, what); None where it's no refusal."""
        coming, standing = self.state(steps)
        if last[0] == "strike":
            there = type(last[1]) is int and last[1] in standing
            return None if there else (NoPicking, last[1])
        if not self.is_picking(last[1], last[2]):
            return (BadPicking, (last[1], last[2]))
        triple = clash([*standing.values(), (last[1], last[2])])
        if triple is None:
            return None
        numbers = [*standing, coming]
        return (Against, (triple[0], numbers[triple[1]], numbers[triple[2]]))

    def is_picking(self, liking, row):
        """Whether they are one of these fruits, lists and tuples alike."""
        if not isinstance(liking, (list, tuple)) or not isinstance(row, (list, tuple)):
            return False
        if not all(isinstance(each, str) for each in [*liking, *row]):
            return False
        return sorted(liking) == list(self.names) and len(set(row)) == len(row) and set(row) <= set(self.names)

    def tell(self, steps, step):
        """What the step tells behind these."""
        return self.state(steps)[0] if step[0] == "note" else None

    def run(self, steps, whole):
        """The pair of the list told and the refusal, one of them None; the deeds stand as they must."""
        begun, told = [], []
        for step in steps:
            refusal = self.refusal(begun, step)
            if refusal is not None:
                return None, refusal
            told.append(self.tell(begun, step))
            if whole:
                begun.append(step)
            else:
                self.deeds.append([step])
        if whole:
            self.deeds.append(begun)
        return told, None


def is_step(thing):
    """Whether it's a deed by its word and how many things stand behind it."""
    if not isinstance(thing, (list, tuple)) or not thing:
        return False
    return thing[0] == "note" and len(thing) == 3 or thing[0] == "strike" and len(thing) == 2


class Diaries(unittest.TestCase):
    def check_like(self, diary, plain):
        """The diary tells in all what is due."""
        coming, standing = plain.state()
        check_same(self, diary.fruits(), plain.names)
        check_same(self, diary.pickings(), [(number, *picking) for number, picking in standing.items()])
        check_same(self, diary.deeds(), len(plain.deeds))
        check_same(self, diary.log(), plain.log)
        check_same(self, len(diary), len(standing))
        check_same(self, repr(diary), f"Diary({len(plain.names)} fruits, {len(standing)} pickings)")
        self.check_asks(diary, list(standing.values()), plain.names)

    def check_asks(self, diary, pickings, names):
        """What is told of the orchards that have all pickings."""
        liking = names[::-1]
        if not pickings:
            self.check_bare(diary, liking)
            return
        check_same(self, diary.latest(), latest_hung(pickings))
        check_same(self, diary.soonest(), soonest_hung(pickings))
        check_same(self, diary.next_of(liking), (sure_row(pickings, liking), next_ones(pickings, liking)))
        for fruit in names[:3]:
            check_same(self, diary.ripe_by(fruit, ["zz", *names[2:]]), ripe_by(pickings, fruit, ["zz", *names[2:]]))

    def check_bare(self, diary, liking):
        for ask, given in [(diary.latest, {}), (diary.soonest, {}), (diary.next_of, {"liking": liking}),
                           (diary.ripe_by, {"fruit": "zz", "gone": ["a"]}), (diary.ripe_by, {"fruit": "a", "gone": []})]:
            check_refused(self, Bare, None, ask, given)

    def check_deed(self, diary, plain, word, ask, told, refusal):
        """The deed is done or refused as is due; its log has both ends."""
        plain.log += [("in", word), ("out", word)]
        if refusal is None:
            check_same(self, ask(), told)
        else:
            with self.assertRaises(refusal[0]) as caught:
                ask()
            self.assertIs(type(caught.exception), refusal[0])
            check_same(self, caught.exception.what, refusal[1])
        self.assertEqual(diary.log()[-2:], [("in", word), ("out", word)])

    def do(self, diary, plain, steps, whole):
        """do of these, which may be no deeds."""
        bad = [place for place, step in enumerate(steps) if not is_step(step)]
        told, refusal = (None, (BadDeed, bad[0])) if bad else plain.run(steps, whole)
        ask = (lambda: diary.do(steps)) if whole and len(steps) % 2 else (lambda: diary.do(deeds=steps, whole=whole))
        self.check_deed(diary, plain, "do", ask, told, refusal)

    def one(self, diary, plain, step):
        """note or strike."""
        told, refusal = plain.run([step], False)
        if step[0] == "note":
            ask = lambda: diary.note(liking=step[1], row=step[2])
        else:
            ask = lambda: diary.strike(step[1])
        self.check_deed(diary, plain, step[0], ask, None if told is None else told[0], refusal)

    def undo(self, diary, plain):
        there = bool(plain.deeds)
        plain.deeds = plain.deeds[:-1]
        self.check_deed(diary, plain, "undo", diary.undo, there, None)


class ByHand(Diaries):
    def test_new(self):
        for fruits in ([], ["a"], ["b", "a"], ("zz", "b", "a")):
            diary = Diary(fruits)
            check_same(self, diary.fruits(), tuple(sorted(fruits)))
            check_same(self, diary.pickings(), [])
            check_same(self, (diary.deeds(), diary.log(), len(diary)), (0, [], 0))
            check_same(self, repr(diary), f"Diary({len(fruits)} fruits, 0 pickings)")
            self.check_bare(diary, tuple(fruits))
        check_same(self, Diary(fruits=["b", "a"]).fruits(), AB)

    def test_note_and_strike(self):
        diary = Diary(["b", "a"])
        self.assertEqual(diary.note(AB, ["b", "a"]), 0)
        self.assertEqual(diary.note(["b", "a"], ("b", "a")), 1)
        check_same(self, diary.pickings(), [(0, AB, ["b", "a"]), (1, BA, ["b", "a"])])
        check_same(self, diary.latest(), (("a", (("b",),)), ("b", ((),))))
        self.assertIs(diary.strike(0), None)
        check_same(self, diary.pickings(), [(1, BA, ["b", "a"])])
        check_same(self, diary.soonest(), (("a", ((),)), ("b", ((),))))
        check_same(self, diary.next_of(AB), ([], ["a", "b"]))
        check_same(self, diary.ripe_by("a", []), "open")
        self.assertIs(diary.strike(number=1), None)
        self.assertEqual(diary.note(AB, []), 2)
        self.assertEqual(diary.deeds(), 5)
        check_same(self, diary.log(), [("in", "note"), ("out", "note")] * 2 + [("in", "strike"), ("out", "strike")] * 2
                   + [("in", "note"), ("out", "note")])

    def test_numbers(self):
        diary = Diary(["a"])
        self.assertEqual([diary.note(("a",), ["a"]) for round_ in range(3)], [0, 1, 2])
        diary.strike(2)
        # A struck one's number isn't given again, but one comes again behind undo.
        self.assertEqual(diary.note(("a",), ["a"]), 3)
        self.assertIs(diary.undo(), True)
        self.assertEqual(diary.note(("a",), ["a"]), 3)
        self.assertIs(diary.undo(), True)
        self.assertIs(diary.undo(), True)
        check_same(self, [number for number, liking, row in diary.pickings()], [0, 1, 2])
        self.assertIs(diary.undo(), True)
        self.assertEqual(diary.note(("a",), ["a"]), 2)

    def test_against_by_the_diary_s_own_numbers(self):
        diary = Diary(["a", "b"])
        for round_ in range(3):
            diary.note(AB, ["a", "b"])
        diary.strike(0)
        check_refused(self, Against, ("a", 1, 3), diary.note, {"liking": AB, "row": ["b", "a"]}, told=True)
        diary.strike(1)
        check_refused(self, Against, ("a", 2, 3), diary.note, {"liking": AB, "row": ["b", "a"]}, told=True)
        diary.strike(2)
        self.assertEqual(diary.note(AB, ["b", "a"]), 3)
        check_refused(self, Against, ("a", 4, 3), diary.note, {"liking": AB, "row": ["a", "b"]}, told=True)
        self.assertEqual(Against.__bases__, (ValueError,))

    def test_undo_where_there_is_none(self):
        diary = Diary(["a"])
        self.assertIs(diary.undo(), False)
        diary.note(("a",), [])
        self.assertIs(diary.undo(), True)
        self.assertIs(diary.undo(), False)
        check_same(self, diary.log(), [("in", "undo"), ("out", "undo"), ("in", "note"), ("out", "note"), ("in", "undo"),
                                       ("out", "undo"), ("in", "undo"), ("out", "undo")])
        self.assertEqual(diary.deeds(), 0)

    def test_do_of_none(self):
        diary = Diary(["a"])
        check_same(self, diary.do([]), [])
        self.assertEqual(diary.deeds(), 1)
        check_same(self, diary.do([], whole=False), [])
        check_same(self, diary.do((), whole=True), [])
        self.assertEqual(diary.deeds(), 2)
        check_same(self, diary.log(), [("in", "do"), ("out", "do")] * 3)
        self.assertEqual([diary.undo() for round_ in range(3)], [True, True, False])

    def test_do(self):
        steps = [("note", AB, ["a", "b"]), ("note", BA, ["b", "a"]), ("strike", 0), ("note", AB, ["a", "b"])]
        for whole in (True, False):
            for deeds in (steps, in_lists(steps), in_tuples(steps)):
                diary = Diary(["a", "b"])
                check_same(self, diary.do(deeds, whole=whole), [0, 1, None, 2])
                check_same(self, [number for number, liking, row in diary.pickings()], [1, 2])
                self.assertEqual(diary.deeds(), 1 if whole else 4)
                check_same(self, diary.log(), [("in", "do"), ("out", "do")])
                self.assertIs(diary.undo(), True)
                check_same(self, [number for number, liking, row in diary.pickings()], [] if whole else [1])
                self.assertEqual(diary.note(AB, ["a", "b"]), 0 if whole else 2)

    def test_a_refused_run(self):
        last = [(("note", AB, ["b", "a"]), Against, ("a", 1, 3)), (("strike", 0), NoPicking, 0), (("strike", 3), NoPicking, 3),
                (("note", AB, ["c"]), BadPicking, (AB, ["c"])), (("note", None, 5), BadPicking, (None, 5))]
        for step, error, what in last:
            steps = [("note", AB, ["a", "b"]), ("note", AB, ["a", "b"]), ("note", BA, ["b", "a"]), ("strike", 0), step,
                     ("strike", 99)]
            for whole in (True, False):
                diary = Diary(["a", "b"])
                with self.assertRaises(error) as caught:
                    diary.do(steps, whole=whole)
                self.assertIs(type(caught.exception), error)
                check_same(self, caught.exception.what, what)
                check_same(self, diary.log(), [("in", "do"), ("out", "do")])
                self.assertEqual(diary.deeds(), 0 if whole else 4)
                check_same(self, [number for number, liking, row in diary.pickings()], [] if whole else [1, 2])
                self.assertEqual(diary.note(AB, ["a", "b"]), 0 if whole else 3)

    def test_whole_by_name_alone(self):
        with self.assertRaises(TypeError):
            Diary(["a"]).do([], False)

    def test_as_of_and_twin(self):
        diary = Diary(["a", "b"])
        diary.note(AB, ["a", "b"])
        diary.do([("note", BA, ["b", "a"]), ("strike", 0)])
        diary.note(AB, ["a", "b"])
        numbers = [[0], [1], [1, 2]]
        for many in range(4):
            other = diary.as_of(many)
            self.assertEqual(other.deeds(), many)
            check_same(self, other.log(), [])
            check_same(self, [number for number, liking, row in other.pickings()], ([[]] + numbers)[many])
            self.assertEqual([other.undo() for round_ in range(many + 1)], [True] * many + [False])
            check_same(self, other.pickings(), [])
        twin = diary.twin()
        check_same(self, (twin.deeds(), twin.log()), (3, []))
        self.assertTrue(twin == diary)
        # They stay apart.
        self.assertEqual(twin.note(AB, ["a", "b"]), 3)
        self.assertEqual((twin.deeds(), diary.deeds(), len(twin), len(diary)), (4, 3, 3, 2))
        self.assertIs(diary.undo(), True)
        self.assertEqual((twin.deeds(), diary.deeds(), len(twin), len(diary)), (4, 2, 3, 1))
        self.assertEqual(diary.as_of(many=1).note(BA, ["b", "a"]), 1)
        check_same(self, twin.log(), [("in", "note"), ("out", "note")])

    def test_no_deed(self):
        diary = Diary(["a"])
        for many in NUMBERS:
            if many != 0:
                check_refused(self, NoDeed, many, diary.as_of, {"many": many})
        diary.note(("a",), ["a"])
        diary.note(("a",), ["a"])
        diary.undo()
        for many in NUMBERS:
            if many not in (0, 1):
                check_refused(self, NoDeed, many, diary.as_of, {"many": many})
        self.assertEqual(NoDeed.__bases__, (LookupError,))

    def test_asks_are_not_in_the_log(self):
        diary = Diary(["a", "b"])
        diary.note(AB, ["a", "b"])
        before = diary.log()
        for ask in (diary.fruits, diary.pickings, diary.latest, diary.soonest, diary.deeds, diary.twin, diary.log):
            ask()
        diary.ripe_by("a", [])
        diary.next_of(AB)
        diary.as_of(0)
        check_same(self, diary.log(), before)
        self.assertEqual(diary.deeds(), 1)

    def test_the_bare_diary_has_pickings_too(self):
        diary = Diary([])
        self.assertEqual([diary.note((), []), diary.note([], ())], [0, 1])
        check_same(self, diary.pickings(), [(0, (), []), (1, (), [])])
        check_same(self, (diary.latest(), diary.soonest(), diary.next_of(())), ((), (), ([], [None])))

    def test_repr_and_len(self):
        diary = Diary(["a"])
        diary.note(("a",), [])
        check_same(self, repr(diary), "Diary(1 fruits, 1 pickings)")
        diary = Diary(["a", "b", "c"])
        for round_ in range(2):
            diary.note(("a", "b", "c"), [])
        check_same(self, (repr(diary), str(diary), len(diary)), ("Diary(3 fruits, 2 pickings)",) * 2 + (2,))

    def test_methods_stand_in_the_class(self):
        listed = ("note strike do undo fruits pickings latest soonest ripe_by next_of deeds as_of twin log "
                  "__init__ __eq__ __len__ __repr__")
        self.assertLessEqual(set(listed.split()), set(vars(Diary)))


class Same(Diaries):
    def check_equal(self, one, other, due):
        self.assertIs(one == other, due)
        self.assertIs(other == one, due)
        self.assertIs(one != other, not due)
        self.assertIs(other != one, not due)

    def test_fruits_and_pickings_with_numbers(self):
        one, other = Diary(["a", "b"]), Diary(("b", "a"))
        self.check_equal(one, other, True)
        self.check_equal(one, one, True)
        self.check_equal(one, Diary(["a"]), False)
        self.check_equal(one, Diary(["a", "c"]), False)
        one.note(AB, ["a", "b"])
        self.check_equal(one, other, False)
        other.note(list(AB), tuple(AB))
        self.check_equal(one, other, True)
        other.note(AB, ["a", "b"])
        other.strike(0)
        self.check_equal(one, other, False)
        one.note(AB, ["a", "b"])
        one.do([])
        one.strike(0)
        self.check_equal(one, other, True)
        other.do([("note", BA, ["b", "a"])])
        one.note(BA, ["b", "a"])
        self.check_equal(one, other, True)
        one.undo()
        one.note(AB, ["a", "b"])
        self.check_equal(one, other, False)

    def test_neither_deeds_nor_logs_nor_next_numbers_matter(self):
        one, other = Diary(["a"]), Diary(["a"])
        one.note(("a",), ["a"])
        one.strike(0)
        self.check_equal(one, other, True)

    def test_to_another_kind(self):
        diary = Diary([])
        for thing in (None, 0, "", (), [], {}, "Diary(0 fruits, 0 pickings)", Diary, object(), ((), [])):
            self.check_equal(diary, thing, False)
        self.assertIs(diary == unittest.mock.ANY, False)


class Refused(Diaries):
    def check_note(self, diary, liking, row):
        """BadPicking, by note and by do, as they're handed in; nothing but the log is changed."""
        before = (diary.pickings(), diary.deeds(), diary.log())
        kept = copy.deepcopy((liking, row))
        for word, ask in [("note", lambda: diary.note(liking, row)), ("note", lambda: diary.note(row=row, liking=liking)),
                          ("do", lambda: diary.do([("note", liking, row)])),
                          ("do", lambda: diary.do([["note", liking, row]], whole=False))]:
            with self.assertRaises(BadPicking) as caught:
                ask()
            self.assertIs(type(caught.exception), BadPicking)
            check_same(self, caught.exception.what, kept)
            before[2].extend([("in", word), ("out", word)])
            check_same(self, (diary.pickings(), diary.deeds(), diary.log()), before)
        spoil([liking, row])
        check_same(self, caught.exception.what, kept)

    def test_bad_picking_of_things_of_any_kind(self):
        things = [*any_things(), *all_nested(("a", "b"), range(2, 10)), *variants(AB), "ab", {"a": 1}]
        for fruits in ([], ["a", "b"]):
            plain = Plain(fruits)
            for thing in things:
                for liking, row in [(thing, []), (tuple(fruits), thing), (thing, thing)]:
                    if not plain.is_picking(liking, row):
                        self.check_note(Diary(fruits), copy.deepcopy(liking), copy.deepcopy(row))
        self.assertEqual(BadPicking.__bases__, (ValueError,))

    def test_bad_picking_by_hand(self):
        diary = Diary(["a", "b"])
        for liking, row in [(("a",), []), (("a", "b", "c"), []), (("a", "a"), []), (("a", "b", "b"), []), ("ab", []), (AB, "ab"),
                            (AB, ["c"]), (AB, ["a", "a"]), (AB, None), (None, []), (AB, [None]), (AB, [["a"]]), ((), []),
                            (("a", "c"), []), (("a", ["b"]), ["a"]), (("a", 1), []), (("A", "b"), []), (AB, [True])]:
            self.check_note(diary, liking, row)

    def test_bad_picking_ahead_of_against(self):
        diary = Diary(["a", "b"])
        diary.note(AB, ["a", "b"])
        self.check_note(diary, AB, ["b", "a", "b"])
        self.check_note(diary, ["a", "b", "zz"], ["b", "a"])

    def test_no_picking_of_any_number(self):
        diary = Diary(["a"])
        for round_ in range(4):
            diary.note(("a",), ["a"])
        diary.strike(1)
        diary.undo()
        diary.undo()
        diary.strike(2)
        for number in NUMBERS:
            if number not in (0, 1):
                check_refused(self, NoPicking, number, diary.strike, {"number": number})
        self.assertEqual(NoPicking.__bases__, (LookupError,))
        check_same(self, [number for number, liking, row in diary.pickings()], [0, 1])
        # Behind a deed's word may be anything.
        for thing in (None, True, False, "0", [0], (1,), [[]]):
            with self.assertRaises(NoPicking) as caught:
                diary.do([("strike", thing)])
            check_same(self, caught.exception.what, thing)

    def test_bad_deed_of_things_of_any_kind(self):
        note, strike = ("note", AB, ["a", "b"]), ("strike", 0)
        things = [*any_things(), *variants(strike), *all_nested(strike, range(1, 9)), ("note",), ("note", AB), ("strike",), (),
                  [], "note", "strike", ("note", AB, [], []), ("strike", 0, 0), ("undo",), ("do", []), ("Note", AB, []),
                  (["note"], AB, []), (None, 1), (True, 0), ("strike ", 0), ("noteA", AB, []), ("n", "o", "t"), None, 0, 1]
        for thing in things:
            if not is_step(thing):
                diary, plain = Diary(AB), Plain(AB)
                for steps in ([thing], [note, thing], [note, strike, thing, thing], [("strike", 99), thing, note],
                              [("note", None, None), note, thing]):
                    for whole in (True, False):
                        self.do(diary, plain, copy.deepcopy(steps), whole)
                self.assertEqual((diary.deeds(), diary.pickings()), (0, []))
                check_same(self, diary.log(), plain.log)
        self.assertEqual(BadDeed.__bases__, (TypeError,))

    def test_bare_ahead_of_no_fruit(self):
        diary = Diary(["a", "b"])
        for text in ANY_TEXTS:
            check_refused(self, Bare, None, diary.ripe_by, {"fruit": text, "gone": []})
        diary.note(AB, ["a"])
        for text in ANY_TEXTS:
            check_refused(self, NoFruit, text, diary.ripe_by, {"fruit": text, "gone": []})
        diary.strike(0)
        self.check_bare(diary, AB)
        self.assertEqual(Bare.__bases__, (RuntimeError,))


class Kept(Diaries):
    def test_nothing_that_is_handed_in_is_kept_or_changed(self):
        fruits, liking, row = ["b", "a"], ["a", "b"], ["b", "a"]
        steps = [["note", ["b", "a"], ["b", "a"]], ["strike", 0], ["note", ["a", "b"], ["b", "a"]]]
        before = copy.deepcopy(steps)
        diary = Diary(fruits)
        diary.note(liking, row)
        diary.do(steps)
        self.assertEqual((fruits, liking, row, steps), (["b", "a"], ["a", "b"], ["b", "a"], before))
        spoil([fruits, liking, row, steps])
        check_same(self, diary.fruits(), AB)
        check_same(self, diary.pickings(), [(1, BA, ["b", "a"]), (2, AB, ["b", "a"])])
        gone = ["b"]
        check_same(self, diary.ripe_by(fruit="a", gone=gone), "yes")
        self.assertEqual(gone, ["b"])
        liking = ["a", "b"]
        check_same(self, diary.next_of(liking=liking), (["b", "a"], [None]))
        self.assertEqual(liking, ["a", "b"])

    def test_what_is_told_is_the_asker_s_own(self):
        diary = Diary(["a", "b"])
        diary.note(AB, ["b", "a"])
        diary.note(BA, ["b", "a"])
        twin = diary.twin()
        asks = [diary.pickings, diary.latest, diary.soonest, diary.log, diary.fruits, lambda: diary.next_of(AB),
                twin.pickings, twin.log]
        first = [ask() for ask in asks]
        again = [ask() for ask in asks]
        kept = copy.deepcopy(first)
        lists = lists_in([first, again])
        self.assertEqual(len({id(each) for each in lists}), len(lists))
        spoil(first)
        check_same(self, again, kept)
        check_same(self, [ask() for ask in asks], kept)
        told = diary.do([])
        told.append(5)
        check_same(self, diary.do([]), [])


class ManyDeeds(Diaries):
    def any_step(self, rng, plain, seen):
        """note of a picking that fits or doesn't, or strike."""
        coming, standing = plain.state()
        if rng.random() < 0.35:
            return ("strike", rng.choice([*standing, *standing, coming, coming + 1, 0, -1]))
        if rng.random() < 0.12:
            return ("note", *rng.choice([(plain.names, ["zz"]), (plain.names[1:], []), (None, 1), (plain.names, "ab")]))
        picking = rng.choice(seen) if rng.random() < 0.85 else rng.choice(all_pickings(plain.names))
        return rng.choice([tuple, list])(["note", *rng.choice([copy.deepcopy, in_lists, in_tuples])(picking)])

    def any_deed(self, rng, diary, plain, seen):
        way = rng.random()
        if way < 0.5:
            self.one(diary, plain, self.any_step(rng, plain, seen))
        elif way < 0.75:
            steps = [self.any_step(rng, plain, seen) for step in range(rng.randint(0, 3))]
            if rng.random() < 0.1:
                steps.insert(rng.randint(0, len(steps)), rng.choice([("note",), 5, None, ("strike", 1, 2)]))
            self.do(diary, plain, steps, rng.random() < 0.5)
        else:
            self.undo(diary, plain)

    def made_anew(self, plain):
        """A Diary made anew by the deeds that stand."""
        diary = Diary(plain.names)
        for steps in plain.deeds:
            diary.do(steps)
        return diary

    def check_anew(self, diary, plain):
        """One made anew tells the same, but for the log; so do twin and as_of."""
        anew = self.made_anew(plain)
        for other in (anew, diary.twin()):
            self.assertTrue(diary == other)
            self.assertEqual(diary.deeds(), other.deeds())
            self.check_asks(other, [(liking, row) for number, liking, row in diary.pickings()], plain.names)
        liking = plain.names
        if not self.refused(diary, liking, []):
            self.assertEqual(diary.twin().note(liking, []), anew.note(liking, []))

    def refused(self, diary, liking, row):
        try:
            diary.twin().note(liking, row)
        except Against:
            return True
        return False

    def test_many_deeds(self):
        rng = random.Random(18)
        for round_ in range(60):
            names = ["a", "b", "cc"][:rng.randint(0, 3)]
            orchard = rng.choice(all_orchards(names))
            seen = [(liking, plain_pick(orchard, liking)) for liking in all_likings(orchard)]
            diary, plain = Diary(rng.sample(names, len(names))), Plain(names)
            for deed in range(25):
                self.any_deed(rng, diary, plain, seen)
                self.check_like(diary, plain)
                self.check_anew(diary, plain)
            for many in range(len(plain.deeds) + 1):
                past = Plain(names)
                past.deeds = plain.deeds[:many]
                other = diary.as_of(many)
                self.check_like(other, past)
                for more in range(3):
                    self.any_deed(rng, other, past, seen)
                    self.check_like(other, past)
            self.check_like(diary, plain)

    def test_48_deeds(self):
        rng = random.Random(19)
        for names, most in [(list(TEN), 6), (list("abcd"), 24)]:
            orchard = made(rng.choice([coming_rows, random_rows])(rng, names, 6, 3))
            diary, plain = Diary(names), Plain(names)
            while diary.deeds() < 48:
                liking = tuple(rng.sample(names, len(names)))
                if len(diary) == most or len(diary) and rng.random() < 0.3:
                    self.one(diary, plain, ("strike", rng.choice(diary.pickings())[0]))
                else:
                    self.one(diary, plain, ("note", liking, plain_pick(orchard, liking)))
            self.check_like(diary, plain)
            self.check_anew(diary, plain)
            other = diary.as_of(24)
            past = Plain(names)
            past.deeds = plain.deeds[:24]
            self.check_like(other, past)
            while diary.undo():
                plain.deeds.pop()
                plain.log += [("in", "undo"), ("out", "undo")]
            plain.log += [("in", "undo"), ("out", "undo")]
            self.check_like(diary, plain)
            self.assertEqual(diary.note(liking, plain_pick(orchard, liking)), 0)

    def test_a_full_diary(self):
        rng = random.Random(29)
        orchard = made(coming_rows(rng, list("abcd"), 4, 3))
        steps = [("note", liking, plain_pick(orchard, liking)) for liking in all_likings(orchard)]
        diary, plain = Diary("abcd"), Plain("abcd")
        self.do(diary, plain, steps, False)
        self.check_like(diary, plain)
        for liking in all_likings(orchard):
            check_same(self, diary.next_of(liking), (plain_pick(orchard, liking), [None]))
            self.one(diary, plain, ("note", liking, plain_pick(orchard, liking)[:-1]))
        self.check_like(diary, plain)


if __name__ == "__main__":
    unittest.main()
