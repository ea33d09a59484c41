"""The next picking of an unseen orchard: what is sure of its row, and what can go next.

All ORCHARDs that have the PICKINGS hang, fruit by fruit, between the one hung latest and the one hung soonest. As long
as these two rows are one, so are all. The same fruits come in all of them, and of these one is always sure to be ripe.
"""

from ripepicks.between import latest_hung, soonest_hung
from ripepicks.orchards import ripe
from ripepicks.picking import pick


def sure_row(pickings, liking):
    """The longest beginning that the rows of all such ORCHARDs by this liking have; Clash."""
    late = pick(latest_hung(pickings), liking)
    soon = pick(soonest_hung(pickings), liking)
    for at, (one, other) in enumerate(zip(late, soon)):
        if one != other:
            return late[:at]
    return late


def next_ones(pickings, liking):
    """The list of those that go next behind it in some of these ORCHARDs, [None] where all rows end there; Clash."""
    begun = sure_row(pickings, liking)
    late = pick(latest_hung(pickings), liking)
    if len(begun) == len(late):
        return [None]
    maybe = ripe(soonest_hung(pickings), begun)
    # Any of these may be the only one that's ripe sooner: then it goes, where it's liked better than the sure one.
    return [fruit for fruit in liking[:liking.index(late[len(begun)]) + 1] if fruit in maybe]


def parted(pickings, liking):
    """A pair of such ORCHARDs whose rows are unlike right behind the beginning, None where all are one; Clash."""
    late = latest_hung(pickings)
    soon = soonest_hung(pickings)
    return None if pick(late, liking) == pick(soon, liking) else (late, soon)
