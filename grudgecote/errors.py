"""The refusals, each straight under an error of Python's own, with its one field or none.

The messages hold no field: a number handed in may be too long for Python to write out.
"""


class NotSame(ValueError):
    """Two standings do not have as many doves."""


class BadDeed(ValueError):
    """The deed at this place is none, or cannot be done."""

    def __init__(self, place):
        ValueError.__init__(self, "no deed that can be done")
        self.place = place


class BadText(ValueError):
    """This text is no standing's."""

    def __init__(self, text):
        ValueError.__init__(self, "no standing's text")
        self.text = text


class BadRow(ValueError):
    """The row of this number is not written as rows are."""

    def __init__(self, number):
        ValueError.__init__(self, "a row that is not written so")
        self.number = number


class Own(ValueError):
    """This dove would have a grudge about itself."""

    def __init__(self, dove):
        ValueError.__init__(self, "a grudge about its own dove")
        self.dove = dove


class NoDove(LookupError):
    """This dove is not there."""

    def __init__(self, dove):
        LookupError.__init__(self, "no such dove")
        self.dove = dove


class NoStanding(LookupError):
    """No standing has this number."""

    def __init__(self, number):
        LookupError.__init__(self, "no standing of this number")
        self.number = number


class NoDeed(LookupError):
    """There are not so many deeds that stand."""

    def __init__(self, many):
        LookupError.__init__(self, "not so many deeds")
        self.many = many


class Asleep(RuntimeError):
    """This dove sleeps."""

    def __init__(self, dove):
        RuntimeError.__init__(self, "the dove sleeps")
        self.dove = dove


class Awake(RuntimeError):
    """This dove is awake."""

    def __init__(self, dove):
        RuntimeError.__init__(self, "the dove is awake")
        self.dove = dove


class Bare(RuntimeError):
    """This dove's heap is bare."""

    def __init__(self, dove):
        RuntimeError.__init__(self, "the dove's heap is bare")
        self.dove = dove


class Kept(RuntimeError):
    """At this place of a row a sleeper got something, and keeps it."""

    def __init__(self, place):
        RuntimeError.__init__(self, "a sleeper keeps what it got")
        self.place = place


class Barred(RuntimeError):
    """What is wished for is barred by this."""

    def __init__(self, what):
        RuntimeError.__init__(self, "something bars it")
        self.what = what


class NoPeace(RuntimeError):
    """These two doves may not make peace."""


class TooMany(OverflowError):
    """There are so many grudges, more than are counted one by one."""

    def __init__(self, grudges):
        OverflowError.__init__(self, "too many grudges")
        self.grudges = grudges
