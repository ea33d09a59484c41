"""All names of the document: where they stand, and their arguments, by place and by name."""

import importlib
import inspect
import unittest

FILES = """
lots: is_lot(thing) is_within(one, other) least_lots(lots) meeting(lots)
orchards: is_orchard(thing) made(rows) lots_of(orchard, fruit) is_ripe(orchard, fruit, gone) ripe(orchard, gone)
orchards: gone_from(orchard, names) side_by_side(one, other) called(orchard, names)
coming: comes(orchard) stays(orchard) shows_stay(orchard, fruit, thing) needs(orchard, fruit) soonest(orchard, fruit)
coming: latest(orchard, fruit)
picking: is_liking(orchard, thing) pick(orchard, liking) passed_by(orchard, liking) turn_of(orchard, liking, fruit)
rows: is_row(orchard, thing) rows_many(orchard) row_at(orchard, number) number_of(orchard, row)
uppers: ripe_from(orchard, row) uppers(orchard, row) above(orchard, row, fruit) is_sure(orchard, row, one, other)
likings: leads(orchard, row, liking) astray(orchard, row, liking) likings_many(orchard, row)
likings: liking_at(orchard, row, number) liking_number(orchard, row, liking)
blocks: heads(liking, row) blocks(liking, row) merged(liking, rows) own_rows(row, lots)
turns: placed(liking, fruit, place) steps(orchard, liking, fruit) turn_at(orchard, liking, fruit, place)
turns: rearmost(orchard, liking, fruit, turn)
moving: least_moved(orchard, row, liking, prices) shows_price(orchard, row, liking, prices, price, thing)
moving: moved_liking(orchard, row, liking, names)
hanging: ill_hung(orchard, liking, row) least_hung(orchard, liking, row, prices) hung_anew(orchard, liking, row)
pickings: is_pickings(thing) known(picking, fruit) clash(pickings) shows_clash(pickings, thing) is_of(pickings, orchard)
between: latest_hung(pickings) soonest_hung(pickings) ripe_by(pickings, fruit, gone)
nexts: sure_row(pickings, liking) next_ones(pickings, liking) parted(pickings, liking)
texts: orchard_text(orchard) orchard_in(text)
desk: answers(text)
"""
DIARY = """__init__(self, fruits) note(self, liking, row) strike(self, number) do(self, deeds, *, whole=True) undo(self)
fruits(self) pickings(self) latest(self) soonest(self) ripe_by(self, fruit, gone) next_of(self, liking) deeds(self)
as_of(self, many) twin(self) log(self)"""


def listed(text):
    """Pairs (name, its arguments in brackets)."""
    return [(part.partition("(")[0].strip(), "(" + part.partition("(")[2] + ")") for part in text.split(")")[:-1]]


class Interface(unittest.TestCase):
    def test_functions(self):
        many = 0
        for line in FILES.strip().splitlines():
            file, colon, text = line.partition(":")
            module = importlib.import_module("ripepicks." + file)
            for name, arguments in listed(text):
                function = getattr(module, name)
                self.assertEqual(str(inspect.signature(function)), arguments, name)
                self.assertEqual(function.__module__, "ripepicks." + file)
                many += 1
        self.assertEqual(many, 63)

    def test_diary(self):
        diary = importlib.import_module("ripepicks.diary").Diary
        for name, arguments in listed(DIARY):
            self.assertEqual(str(inspect.signature(vars(diary)[name])), arguments, name)


if __name__ == "__main__":
    unittest.main()
