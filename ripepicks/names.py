"""NAMEs, numbers, and what rises."""

LONGEST = 8


def is_name(thing):
    """Whether it's a text of one to eight letters a to z."""
    return isinstance(thing, str) and 1 <= len(thing) <= LONGEST and all(["a" <= sign <= "z" for sign in thing])


def is_number(thing):
    """Whether it's a whole number, True and False not among these."""
    return isinstance(thing, int) and not isinstance(thing, bool)


def rises(things):
    """Whether each of a list or tuple is less than the next one, so that nothing is there twice."""
    return all([one < other for one, other in zip(things, things[1:])])
