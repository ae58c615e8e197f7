"""Wishes, all awake: for each dove the heap that it is wished to have, or None where it isn't told."""

from grudgecote.between import between
from grudgecote.counting import all_shares, orders_of
from grudgecote.errors import Barred
from grudgecote.limits import MOST_GRUDGES
from grudgecote.lines import cut, line
from grudgecote.standings import heap_of, is_heap, need_few


def is_wish(standing, thing):
    """Whether a thing is a WISH of a standing, made of tuples."""
    if not isinstance(thing, tuple) or len(thing) != len(standing):
        return False
    return all([heap is None or is_heap(heap, dove, len(thing)) for dove, heap in enumerate(thing)])


def wish_of(heaps):
    """The WISH, in tuples, of heaps that may have been handed in as lists."""
    return tuple([None if heap is None else heap_of(heap) for heap in heaps])


def many_about(heap, about):
    """How many grudges of a heap are about this dove."""
    return len([target for target, _ in heap if target == about])


def taken_by_lesser(wish, dove):
    """For each lesser dove that is told, how many of its line with this one lie with it by the wish."""
    return {about: many_about(wish[about], dove) for about in range(dove) if wish[about] is not None}


def place_barred(standing, wish, dove):
    """The first place of a told dove's heap that bars the wish, where no lesser dove's heap does."""
    lesser = taken_by_lesser(wish, dove)
    taken = [0] * len(wish)
    for place, (about, word) in enumerate(wish[dove]):
        words = line(standing, dove, about)
        free = words[:len(words) - lesser.get(about, 0)]
        # A slice is bare beyond the end, where an index would be refused.
        if free[taken[about]:taken[about] + 1] != (word,):
            return place
        taken[about] += 1
    for about, many in lesser.items():
        if taken[about] + many < len(line(standing, dove, about)):
            return len(wish[dove])
    return None


def wish_bar(standing, wish):
    """None where pecks lead to what is wished for, else the first pair (dove, place) that bars it."""
    heaps = wish_of(wish)
    for dove, heap in enumerate(heaps):
        if heap is not None:
            place = place_barred(standing, heaps, dove)
            if place is not None:
                return (dove, place)
    return None


def heap_so(standing, wish, dove):
    """A dove's heap where an unbarred wish comes true."""
    if wish[dove] is not None:
        return wish[dove]
    heap = []
    for about in range(len(wish)):
        words = line(standing, dove, about)
        many = cut(standing, dove, about)
        if wish[about] is not None:
            many = len(words) - many_about(wish[about], dove)
        heap.extend([(about, word) for word in words[:many]])
    return tuple(heap)


def granted(standing, wish):
    """A ROW that leads to a STANDING in which each told dove has its heap."""
    bar = wish_bar(standing, wish)
    if bar is not None:
        raise Barred(bar)
    heaps = wish_of(wish)
    # Where all are awake a row leads to each standing of the same lines.
    return between(standing, tuple([heap_so(standing, heaps, dove) for dove in range(len(heaps))]))[1]


def many_so(shares, wish):
    """How many standings with these shares there are in which each told dove has its heap."""
    many = 1
    for share, heap in zip(shares, wish):
        if heap is None:
            many *= orders_of(share)
        elif share != [many_about(heap, about) for about in range(len(wish))]:
            return 0
    return many


def how_many_so(standing, wish):
    """How many STANDINGs pecks lead to in which each told dove has its heap."""
    need_few(standing, MOST_GRUDGES)
    if wish_bar(standing, wish) is not None:
        return 0
    heaps = wish_of(wish)
    return sum([many_so(shares, heaps) for shares in all_shares(standing)])
