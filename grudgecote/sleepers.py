"""What sleepers come to have, whose heaps only grow: by a wish in which sleepers alone are told."""

from math import comb

from grudgecote.between import give_in_turn, in_turn, ring_in
from grudgecote.errors import Barred
from grudgecote.givings import gifts_to, waits_among
from grudgecote.lines import cut, unlike_at
from grudgecote.pecks import heaps_of
from grudgecote.standings import held, need_asleep, need_dove, standing_of
from grudgecote.still import sleepers_places
from grudgecote.wishes import wish_of


def place_not_kept(here, heap):
    """None, or the first place of a sleeper's heap here at which the wished one has another grudge, or none."""
    for place in range(len(here)):
        if unlike_at(here, heap, place):
            return place
    return None


def place_not_given(standing, heap, dove, asleep):
    """None, or the first place above a sleeper's own heap of a grudge that no awake dove can give it then."""
    given = [0] * len(standing)
    start = len(standing[dove])
    for place, (giver, word) in enumerate(heap[start:], start=start):
        words = held(standing, giver, dove)[::-1]
        # A slice is bare beyond the end, where an index would be refused.
        if giver in asleep or words[given[giver]:given[giver] + 1] != (word,):
            return place
        given[giver] += 1
    return None


def heap_bar(standing, wish, asleep):
    """None, or the first ("heap", dove, place) that bars the wish."""
    for dove, heap in enumerate(wish):
        if heap is not None:
            place = place_not_kept(standing[dove], heap)
            if place is None:
                place = place_not_given(standing, heap, dove, asleep)
            if place is not None:
                return ("heap", dove, place)
    return None


def gifts_by(standing, wish, asleep):
    """For each told sleeper its GIVINGS, from below to above, by a wish that no heap bars."""
    givable = []
    for dove, heap in enumerate(standing):
        if dove not in asleep:
            givable.extend([(dove, place) for place in sleepers_places(heap, asleep)])
    return [gifts_to(dove, standing, wish, givable) for dove, heap in enumerate(wish) if heap is not None]


def above_bar(standing, wish, given):
    """None, or the first ("above", dove, place) that bars the wish by which these are given."""
    for dove, heap in enumerate(standing):
        places = [place for giver, place in given if giver == dove]
        for place in range(min(places, default=len(heap)), len(heap)):
            about = heap[place][0]
            if wish[about] is not None and place not in places:
                return ("above", dove, place)
    return None


def bar_or_turn(standing, wish, asleep):
    """What bars the wish and None, or None and the GIVINGS, each behind those that it waits for."""
    bar = heap_bar(standing, wish, asleep)
    if bar is not None:
        return bar, None
    gift_lists = gifts_by(standing, wish, asleep)
    given = sorted([giving for gifts in gift_lists for giving in gifts])
    bar = above_bar(standing, wish, given)
    if bar is not None:
        return bar, None
    pairs = waits_among(given, gift_lists)
    turn, left = in_turn(given, pairs)
    if left:
        return ("ring", ring_in(left, pairs)), None
    return None, turn


def given_bar(standing, wish, *, asleep=()):
    """None where a ROW leads to what is wished for, else the first that bars it."""
    return bar_or_turn(standing_of(standing), wish_of(wish), asleep)[0]


def given_row(standing, wish, *, asleep=()):
    """A ROW that leads to a STANDING in which each told sleeper has its heap."""
    bar, turn = bar_or_turn(standing_of(standing), wish_of(wish), asleep)
    if bar is not None:
        raise Barred(bar)
    return give_in_turn(heaps_of(standing), turn)


def mingled(ways, many):
    """How many lists of gifts there are, by their length, when one more dove can give up to so many."""
    more_ways = [0] * (len(ways) + many)
    for length, way in enumerate(ways):
        for more in range(many + 1):
            more_ways[length + more] += way * comb(length + more, more)
    return more_ways


def heaps_many(standing, dove, *, asleep=()):
    """How many unlike HEAPs a sleeper can come to have."""
    need_dove(standing, dove)
    need_asleep(asleep, dove)
    # Each dove gives from above, so who gives, one behind the other, tells which grudges these are.
    ways = [1]
    for giver in range(len(standing)):
        if giver not in asleep:
            ways = mingled(ways, cut(standing, giver, dove))
    return sum(ways)
