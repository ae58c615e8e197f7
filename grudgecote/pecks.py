"""Pecks: the uppermost grudge of an awake dove goes over to the dove that it is about."""

from grudgecote.errors import Bare, Kept
from grudgecote.standings import heap_of, need_awake, need_dove, standing_of


def heaps_of(standing):
    """The heaps of a standing as lists of their own, to be pecked in."""
    return [list(heap_of(heap)) for heap in standing]


def need_peck(heaps, dove, asleep):
    """Refuse a peck that isn't let."""
    need_dove(heaps, dove)
    need_awake(asleep, dove)
    if not heaps[dove]:
        raise Bare(dove)


def peck_in(heaps, dove):
    """Let a dove peck in these heaps; told is the pair (the dove that gets it, its word)."""
    about, word = heaps[dove].pop()
    heaps[about].append((dove, word))
    return (about, word)


def go_in(heaps, row, asleep):
    """Let a row of doves peck in these heaps; told is what peck_in tells, place by place."""
    gifts = []
    for dove in row:
        need_peck(heaps, dove, asleep)
        gifts.append(peck_in(heaps, dove))
    return gifts


def pecked(standing, dove, *, asleep=()):
    """The STANDING behind a dove's peck."""
    return gone(standing, [dove], asleep=asleep)


def gone(standing, row, *, asleep=()):
    """The STANDING behind a row of pecks."""
    heaps = heaps_of(standing)
    go_in(heaps, row, asleep)
    return standing_of(heaps)


def backwards(standing, row, *, asleep=()):
    """The ROW that leads back, behind a row, to the standing."""
    takers = [taker for taker, _ in go_in(heaps_of(standing), row, asleep)]
    for place, taker in enumerate(takers):
        if taker in asleep:
            raise Kept(place)
    return takers[::-1]
