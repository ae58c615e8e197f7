"""Small judges, who look for nothing: whether a thing is a row that leads there, or a bar."""

from grudgecote.errors import Asleep, Bare, NoDove
from grudgecote.givings import first_bar, waits
from grudgecote.lines import line, unlike_at
from grudgecote.pecks import gone
from grudgecote.standings import is_number, need_same, standing_of
from grudgecote.still import still


def are_numbers(things):
    """Whether all these things are whole numbers."""
    return all([is_number(thing) for thing in things])


def shows_row(one, other, thing, *, asleep=()):
    """Whether a thing is a ROW that leads from one to other."""
    need_same(one, other)
    if not isinstance(thing, list) or not are_numbers(thing):
        return False
    try:
        behind = gone(one, thing, asleep=asleep)
    except (NoDove, Asleep, Bare):
        return False
    return behind == standing_of(other)


def shows_line(one, other, told):
    """Whether (low, high, place) is a place at which these doves' lines are unlike."""
    if len(told) != 3 or not are_numbers(told):
        return False
    low, high, place = told
    if not 0 <= low < high < len(one) or place < 0:
        return False
    return unlike_at(line(one, low, high), line(other, low, high), place)


def shows_heap(one, other, told, asleep):
    """Whether (dove, place) is among what can't move, and other has something else there."""
    if len(told) != 2 or not are_numbers(told):
        return False
    dove, place = told
    if not 0 <= dove < len(one) or not 0 <= place < still(one, other, asleep=asleep)[dove]:
        return False
    return unlike_at(standing_of(one)[dove], standing_of(other)[dove], place)


def is_giving(thing):
    """Whether a thing is written as a GIVING is."""
    return isinstance(thing, tuple) and len(thing) == 2 and are_numbers(thing)


def shows_ring(one, other, told, asleep):
    """Whether (GIVINGS,) is a ring of unlike ones, each of which waits for the next one."""
    if len(told) != 1 or not isinstance(told[0], list):
        return False
    ring = told[0]
    if len(ring) < 2 or not all([is_giving(thing) for thing in ring]) or len(set(ring)) < len(ring):
        return False
    if first_bar(one, other, asleep) is not None:
        return False
    pairs = waits(one, other, asleep=asleep)
    return all([pair in pairs for pair in zip(ring, ring[1:] + ring[:1])])


def shows_bar(one, other, thing, *, asleep=()):
    """Whether a thing is a line, a heap or a ring that bars all ways from one to other."""
    need_same(one, other)
    if not isinstance(thing, tuple) or not thing:
        return False
    if thing[0] == "line":
        return shows_line(one, other, thing[1:])
    if thing[0] == "heap":
        return shows_heap(one, other, thing[1:], asleep)
    if thing[0] == "ring":
        return shows_ring(one, other, thing[1:], asleep)
    return False
