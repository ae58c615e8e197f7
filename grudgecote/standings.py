"""Standings: for each dove its heap, from below to above, of grudges (about, word)."""

from grudgecote.errors import Asleep, Awake, NoDove, NotSame, TooMany

LONGEST_WORD = 6


def is_number(thing):
    """Whether a thing is a whole number."""
    # Python counts True and False as whole numbers; the document doesn't.
    return isinstance(thing, int) and not isinstance(thing, bool)


def is_word(thing):
    """Whether a thing is a WORD."""
    if not isinstance(thing, str):
        return False
    return 1 <= len(thing) <= LONGEST_WORD and all(["a" <= sign <= "z" for sign in thing])


def is_grudge(thing, dove, doves):
    """Whether a thing is a GRUDGE that this one of so many doves can have."""
    if not isinstance(thing, tuple) or len(thing) != 2:
        return False
    about, word = thing
    return is_number(about) and 0 <= about < doves and about != dove and is_word(word)


def is_heap(thing, dove, doves):
    """Whether a thing is a HEAP that this one of so many doves can have."""
    return isinstance(thing, tuple) and all([is_grudge(grudge, dove, doves) for grudge in thing])


def is_standing(thing):
    """Whether a thing is a STANDING, made of tuples just as one is told."""
    if not isinstance(thing, tuple) or not thing:
        return False
    return all([is_heap(heap, dove, len(thing)) for dove, heap in enumerate(thing)])


def heap_of(grudges):
    """The HEAP, in tuples, of grudges that may have been handed in as lists."""
    return tuple([(about, word) for about, word in grudges])


def standing_of(heaps):
    """The STANDING, in tuples, of heaps that may have been handed in as lists."""
    return tuple([heap_of(heap) for heap in heaps])


def need_dove(standing, dove):
    """Refuse a dove that isn't there."""
    # Without this a dove below 0 would be read from the end.
    if not 0 <= dove < len(standing):
        raise NoDove(dove)


def need_awake(asleep, dove):
    """Refuse a dove that sleeps."""
    if dove in asleep:
        raise Asleep(dove)


def need_asleep(asleep, dove):
    """Refuse a dove that is awake."""
    if dove not in asleep:
        raise Awake(dove)


def need_same(one, other):
    """Refuse two standings that have not as many doves."""
    if len(one) != len(other):
        raise NotSame()


def need_few(standing, most):
    """Refuse a standing of more grudges than so many."""
    grudges = grudges_in(standing)
    if grudges > most:
        raise TooMany(grudges)


def uppermost(standing, dove):
    """The uppermost GRUDGE of a dove's heap; None of a bare heap."""
    need_dove(standing, dove)
    heap = heap_of(standing[dove])
    if not heap:
        return None
    return heap[-1]


def held(standing, dove, about):
    """The words of a dove's grudges about another one, from below to above."""
    need_dove(standing, dove)
    need_dove(standing, about)
    return tuple([word for target, word in standing[dove] if target == about])


def grudges_in(standing):
    """How many grudges there are in all."""
    return sum([len(heap) for heap in standing])


def renumbered(heap, numbers):
    """The HEAP with numbers[dove] in the place of each dove."""
    return tuple([(numbers[about], word) for about, word in heap])


def called(standing, order):
    """The STANDING whose dove k is what order[k] is here."""
    numbers = {dove: number for number, dove in enumerate(order)}
    return tuple([renumbered(standing[dove], numbers) for dove in order])


def beside(one, other):
    """The STANDING of one's doves and then, numbered on, other's."""
    numbers = [len(one) + dove for dove in range(len(other))]
    return standing_of(one) + tuple([renumbered(heap, numbers) for heap in other])
