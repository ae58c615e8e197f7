"""From one standing to another one: a row of pecks, or what bars it."""

from grudgecote.givings import first_bar, givings, waits
from grudgecote.pecks import backwards, go_in, heaps_of
from grudgecote.still import still


def in_turn(given, pairs):
    """The givings, each behind those that it waits for, and those left that wait without an end."""
    turn = []
    left = given
    while True:
        waiting = [first for first, second in pairs if second in left]
        ready = [giving for giving in left if giving not in waiting]
        if not ready:
            return turn, left
        turn.extend(ready)
        left = [giving for giving in left if giving in waiting]


def ring_in(left, pairs):
    """A ring of givings, all of which wait for others of them, its least one first."""
    awaited = {first: second for first, second in pairs if second in left}
    way = [left[0]]
    while awaited[way[-1]] not in way:
        way.append(awaited[way[-1]])
    ring = way[way.index(awaited[way[-1]]):]
    start = ring.index(min(ring))
    return ring[start:] + ring[:start]


def peck_down(heaps, dove, many):
    """Let a dove peck in these heaps until it has so many grudges; told is the row."""
    row = [dove] * (len(heaps[dove]) - many)
    go_in(heaps, row, ())
    return row


def give_in_turn(heaps, turn):
    """Let givings be given in turn in these heaps; told is the row."""
    row = []
    for dove, place in turn:
        # Nothing beneath a giving has moved before it, so it still lies at its place.
        row.extend(peck_down(heaps, dove, place))
    return row


def gather(heaps, kept, asleep):
    """Let awake doves, each once, peck in these heaps until they have what they keep; told is the row.

    Behind it, of each line between two awake doves, all that isn't kept lies with the lesser
    one, in the order of the others: so whatever the heaps were, they are the same for like lines.
    """
    row = []
    for dove, many in enumerate(kept):
        if dove not in asleep:
            row.extend(peck_down(heaps, dove, many))
    return row


def row_with(one, other, turn, asleep):
    """A ROW that leads from one to other and in which givings are given in turn."""
    heaps = heaps_of(one)
    row = give_in_turn(heaps, turn)
    kept = still(one, other, asleep=asleep)
    row.extend(gather(heaps, kept, asleep))
    return row + backwards(other, gather(heaps_of(other), kept, asleep), asleep=asleep)


def between(one, other, *, asleep=()):
    """("row", ROW), or ("line", one, other, place), or ("heap", dove, place), or ("ring", GIVINGS)."""
    bar = first_bar(one, other, asleep)
    if bar is not None:
        return bar
    pairs = waits(one, other, asleep=asleep)
    turn, left = in_turn(givings(one, other, asleep=asleep), pairs)
    if left:
        return ("ring", ring_in(left, pairs))
    return ("row", row_with(one, other, turn, asleep))
