"""The refusals: each stands straight under one of Python's own errors and has the one field what."""


class BadFruit(ValueError):
    """The pair at this place has a fruit that is no NAME, or that a pair ahead has."""

    def __init__(self, what):
        self.what = what


class BadLot(ValueError):
    """The pair at this place has a list that can be no LOT of its fruit."""

    def __init__(self, what):
        self.what = what


class Twice(ValueError):
    """This fruit is in both orchards."""

    def __init__(self, what):
        self.what = what


class NotRow(ValueError):
    """This is no ROW of the orchard."""

    def __init__(self, what):
        self.what = what


class Astray(ValueError):
    """The liking has this pair, a fruit and its upper, the wrong way round."""

    def __init__(self, what):
        self.what = what


class Clash(ValueError):
    """No orchard has all of the pickings: a fruit and two of them show it."""

    def __init__(self, what):
        self.what = what


class BadPicking(ValueError):
    """This is no PICKING of the diary's fruits."""

    def __init__(self, what):
        self.what = what


class Against(ValueError):
    """The picking clashes with those that stand: a fruit and two numbers show it."""

    def __init__(self, what):
        self.what = what


class BadRow(ValueError):
    """The row of this number is not written as it must be."""

    def __init__(self, what):
        self.what = what


class NotLiking(ValueError):
    """This is no LIKING of the orchard."""

    def __init__(self, what):
        self.what = what


class NoFruit(LookupError):
    """There is no such fruit."""

    def __init__(self, what):
        self.what = what


class NoRow(LookupError):
    """There is no ROW of this number."""

    def __init__(self, what):
        self.what = what


class NoLiking(LookupError):
    """No LIKING that leads to the row has this number."""

    def __init__(self, what):
        self.what = what


class NoPicking(LookupError):
    """No picking of this number stands."""

    def __init__(self, what):
        self.what = what


class NoDeed(LookupError):
    """There are not so many deeds."""

    def __init__(self, what):
        self.what = what


class NoPlace(LookupError):
    """There is no such place in the liking."""

    def __init__(self, what):
        self.what = what


class Stays(RuntimeError):
    """This fruit never comes."""

    def __init__(self, what):
        self.what = what


class Bare(RuntimeError):
    """No picking stands in the diary."""

    def __init__(self, what):
        self.what = what


class BadDeed(TypeError):
    """What is at this place is no deed."""

    def __init__(self, what):
        self.what = what
