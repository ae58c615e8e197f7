"""Few pecks: how many there must be at least, and the first of the shortest rows of small standings."""

from grudgecote.givings import need_unbarred
from grudgecote.limits import FEW_GRUDGES
from grudgecote.lines import cut
from grudgecote.pecks import pecked
from grudgecote.standings import need_few, need_same, standing_of


def same_below(here, there):
    """How many grudges of two heaps are the same from the lowest on."""
    many = 0
    for grudge, other in zip(here, there):
        if grudge != other:
            return many
        many += 1
    return many


def pecks_wanted(one, other, dove):
    """How many pecks at least move what may not stay in a dove's heap in one."""
    abouts = [about for about, _ in one[dove]]
    many = 0
    for place in range(same_below(one[dove], other[dove]), len(abouts)):
        about = abouts[place]
        # So many words of the line lie nearer to its own end.
        nearer = abouts[:place].count(about)
        many += 2 if nearer < cut(other, dove, about) else 1
    return many


def at_least(one, other):
    """How many pecks there must be at least from one to other."""
    # Where all are awake everything can move, and a line alone bars.
    need_unbarred(one, other, ())
    here = standing_of(one)
    there = standing_of(other)
    return sum([pecks_wanted(here, there, dove) for dove in range(len(here))])


def pecks_let(standing, asleep):
    """The doves that may peck, rising."""
    return [dove for dove, heap in enumerate(standing) if heap and dove not in asleep]


def least_row(one, other, *, asleep=()):
    """The first, as lists rise, of the shortest ROWs from one to other; None where there is none."""
    need_same(one, other)
    need_few(one, FEW_GRUDGES)
    start = standing_of(one)
    goal = standing_of(other)
    # Standings are found as the first of their shortest rows rise, the shorter ones first.
    rows = {start: []}
    front = [start]
    while front and goal not in rows:
        found = []
        for here in front:
            for dove in pecks_let(here, asleep):
                there = pecked(here, dove)
                if there not in rows:
                    rows[there] = rows[here] + [dove]
                    found.append(there)
        front = found
    return rows.get(goal)
