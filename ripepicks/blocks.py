"""Blocks: a row parted ahead of each that is liked less than all ahead of it, and rows merged by these."""


def heads(liking, row):
    """The list of those that are liked less than all ahead of them in the row."""
    found = []
    for name in row:
        if not found or liking.index(found[-1]) < liking.index(name):
            found.append(name)
    return found


def blocks(liking, row):
    """The list of lists: the row parted ahead of each head."""
    first = heads(liking, row)
    parts = []
    for name in row:
        if name in first:
            parts.append([])
        parts[-1].append(name)
    return parts


def merged(liking, rows):
    """The row of all blocks of the rows, the better liked head's first."""
    every = [block for row in rows for block in blocks(liking, row)]
    return [name for block in sorted(every, key=lambda each: liking.index(each[0])) for name in block]


def own_rows(row, lots):
    """The list, for each of the LOTs, of the row of those that are in it."""
    return [[name for name in row if name in lot] for lot in lots]
