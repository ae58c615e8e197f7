"""Pecks: the uppermost grudge of an awake dove goes over to the dove that it is about."""

from grudgecote.errors import Asleep, Bare, Kept
from grudgecote.standings import heap_of, need_dove, standing_of


def heaps_of(standing):
    """The heaps of a standing as lists of their own, to be pecked in."""
    return [list(heap_of(heap)) for heap in standing]


def need_peck(heaps, dove, asleep):
    """Refuse a peck that isn't let."""
    need_dove(heaps, dove)
    if dove in asleep:
        raise Asleep(dove)
    if not heaps[dove]:
        raise Bare(dove)


def peck_in(heaps, dove):
    """Let a dove peck in these heaps; told is the dove that gets it."""
    about, word = heaps[dove].pop()
    heaps[about].append((dove, word))
    return about


def go_in(heaps, row, asleep):
    """Let a row of doves peck in these heaps; told are the doves that get it, place by place."""
    takers = []
    for dove in row:
        need_peck(heaps, dove, asleep)
        takers.append(peck_in(heaps, dove))
    return takers


def pecked(standing, dove, *, asleep=()):
    """The STANDING behind a dove's peck."""
    return gone(standing, [dove], asleep=asleep)


def gone(standing, row, *, asleep=()):
    """The STANDING behind a row of pecks."""
    heaps = heaps_of(standing)
    go_in(heaps, row, asleep)
    return standing_of(heaps)


def backwards(standing, row, *, asleep=()):
    """The ROW that leads back, behind a row, to the standing."""
    takers = go_in(heaps_of(standing), row, asleep)
    for place, taker in enumerate(takers):
        if taker in asleep:
            raise Kept(place)
    return takers[::-1]
