"""Lines: what each two doves have of one another, which no peck changes."""

from grudgecote.standings import held, need_same


def line(standing, one, other):
    """The words of one's grudges about other from below, then of other's about one from above."""
    return held(standing, one, other) + held(standing, other, one)[::-1]


def cut(standing, one, other):
    """How many of the line of two doves lie with one."""
    return len(held(standing, one, other))


def pairs_in(standing):
    """The rising list of all pairs of doves (one, other), one below other."""
    return [(one, other) for one in range(len(standing)) for other in range(one + 1, len(standing))]


def lines_of(standing):
    """The rising list of triples (one, other, line) of all whose line isn't bare."""
    triples = [(one, other, line(standing, one, other)) for one, other in pairs_in(standing)]
    return [triple for triple in triples if triple[2]]


def unlike_at(here, there, place):
    """Whether two tuples have unlike things at a place, or one of them a thing and the other none."""
    # A slice is bare beyond the end, where an index would be refused.
    return here[place:place + 1] != there[place:place + 1]


def first_unlike(one, other):
    """None, or the first triple (one, other, place) at which lines of two standings are unlike."""
    need_same(one, other)
    for low, high in pairs_in(one):
        here = line(one, low, high)
        there = line(other, low, high)
        for place in range(max(len(here), len(there))):
            if unlike_at(here, there, place):
                return (low, high, place)
    return None
