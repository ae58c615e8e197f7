"""Givings: the grudges that awake doves have to give to sleepers, and which of these wait for which."""

from grudgecote.errors import Barred
from grudgecote.lines import first_unlike
from grudgecote.still import first_moved, sleepers_places, still


def first_bar(one, other, asleep):
    """None, or ("line", one, other, place), or ("heap", dove, place): what bars all ways to other."""
    unlike = first_unlike(one, other)
    if unlike is not None:
        return ("line",) + unlike
    moved = first_moved(one, other, asleep=asleep)
    if moved is not None:
        return ("heap",) + moved
    return None


def need_unbarred(one, other, asleep):
    """Refuse two standings between which a line or a heap bars all ways."""
    bar = first_bar(one, other, asleep)
    if bar is not None:
        raise Barred(bar)


def givings(one, other, *, asleep=()):
    """The rising list of GIVINGS (dove, place)."""
    need_unbarred(one, other, asleep)
    given = []
    for dove, many in enumerate(still(one, other, asleep=asleep)):
        if dove not in asleep:
            given.extend([(dove, place) for place in sleepers_places(one[dove], asleep) if place >= many])
    return given


def gifts_to(sleeper, one, other, given):
    """The givings to a sleeper, as they lie with it in other, from below to above."""
    places = [[] for _ in one]
    for dove, place in given:
        if one[dove][place][0] == sleeper:
            places[dove].append(place)
    gifts = []
    for grudge in other[sleeper][len(one[sleeper]):]:
        giver = grudge[0]
        # A dove gives from above: of its places the last one is the lowest with the sleeper.
        gifts.append((giver, places[giver].pop()))
    return gifts


def waits_among(given, gift_lists):
    """The rising list of pairs of these givings, a rising list, the first of which waits for the second.

    Each of the gift lists has those to one sleeper, as they lie there in the end.
    """
    pairs = [(low, high) for low, high in zip(given, given[1:]) if low[0] == high[0]]
    for gifts in gift_lists:
        pairs.extend(list(zip(gifts[1:], gifts)))
    # A giving may lie right above in its heap and right beneath with the sleeper: one pair.
    return sorted(set(pairs))


def waits(one, other, *, asleep=()):
    """The rising list of pairs (GIVING, GIVING), the first of which waits for the second."""
    given = givings(one, other, asleep=asleep)
    return waits_among(given, [gifts_to(sleeper, one, other, given) for sleeper in asleep])
