"""What can't move on the way from one standing to another one while some doves sleep."""

from grudgecote.lines import unlike_at
from grudgecote.standings import need_same, standing_of


def sleepers_places(heap, asleep):
    """The places of a heap's grudges about sleepers, rising."""
    return [place for place, grudge in enumerate(heap) if grudge[0] in asleep]


def still_awake(here, there, asleep):
    """How many grudges of an awake dove's heap here can't move, where it has that heap there."""
    # Nobody gives an awake dove a grudge about a sleeper, so the lowest ones are those that it keeps.
    kept = sleepers_places(here, asleep)[:len(sleepers_places(there, asleep))]
    if not kept:
        return 0
    return kept[-1] + 1


def still(one, other, *, asleep=()):
    """Dove by dove, how many grudges of its heap in one can't move."""
    need_same(one, other)
    many = []
    for dove in range(len(one)):
        if dove in asleep:
            many.append(len(one[dove]))
        else:
            many.append(still_awake(one[dove], other[dove], asleep))
    return tuple(many)


def first_moved(one, other, *, asleep=()):
    """None, or the first pair (dove, place) of what can't move at which other has something else."""
    here = standing_of(one)
    there = standing_of(other)
    for dove, many in enumerate(still(one, other, asleep=asleep)):
        for place in range(many):
            if unlike_at(here[dove], there[dove], place):
                return (dove, place)
    return None
