"""Peace, all awake: two doves lay down uppermost grudges about one another, of one word."""

from grudgecote.errors import BadDeed
from grudgecote.lines import line, lines_of, pairs_in
from grudgecote.pecks import heaps_of, peck_in
from grudgecote.standings import is_number, need_same, standing_of


def may_in(heaps, one, other):
    """Whether two doves may make peace in these heaps."""
    if not heaps[one] or not heaps[other]:
        return False
    about, word = heaps[one][-1]
    return about == other and heaps[other][-1] == (one, word)


def lay_down(heaps, one, other):
    """Let two doves make peace in these heaps."""
    heaps[one].pop()
    heaps[other].pop()


def may_make(standing):
    """The rising list of pairs (one, other), one below other, who may make peace."""
    heaps = heaps_of(standing)
    return [(one, other) for one, other in pairs_in(heaps) if may_in(heaps, one, other)]


def left_of(words):
    """What is left of words where neighbours alike are struck as long as there are any."""
    left = []
    for word in words:
        if left and left[-1] == word:
            left.pop()
        else:
            left.append(word)
    return tuple(left)


def left_in_end(standing):
    """The rising list of triples (one, other, what is left of their line), bare ones left out."""
    triples = [(one, other, left_of(words)) for one, other, words in lines_of(standing)]
    return [triple for triple in triples if triple[2]]


def is_deed(thing, doves):
    """Whether a thing, in tuples or in lists, is a DEED of so many doves."""
    if not isinstance(thing, (list, tuple)) or not thing:
        return False
    if not all([is_number(dove) and 0 <= dove < doves for dove in thing[1:]]):
        return False
    if thing[0] == "peck":
        return len(thing) == 2
    return thing[0] == "peace" and len(thing) == 3 and thing[1] < thing[2]


def can_do(heaps, deed):
    """Whether a DEED can be done in these heaps."""
    if deed[0] == "peck":
        return bool(heaps[deed[1]])
    return may_in(heaps, deed[1], deed[2])


def do_in(heaps, deed):
    """Do a DEED in these heaps."""
    if deed[0] == "peck":
        peck_in(heaps, deed[1])
    else:
        lay_down(heaps, deed[1], deed[2])


def done(standing, deeds):
    """The STANDING behind deeds."""
    heaps = heaps_of(standing)
    for place, deed in enumerate(deeds):
        if not is_deed(deed, len(heaps)) or not can_do(heaps, deed):
            raise BadDeed(place)
        do_in(heaps, deed)
    return standing_of(heaps)


def uppermost_deed(heaps, dove):
    """The DEED that takes the uppermost grudge from a dove: peace where it may make it, else a peck."""
    about = heaps[dove][-1][0]
    if may_in(heaps, dove, about):
        return ("peace", min(dove, about), max(dove, about))
    return ("peck", dove)


def to_the_end(standing):
    """A list of DEEDs behind which no peace can be made any more, by whatever pecks.

    At each dove's turn all of its lines with lesser doves lie with it. It lays them upon these,
    each line in one pile, and of two neighbours alike none stays: so all is struck in one round.
    """
    heaps = heaps_of(standing)
    deeds = []
    for dove in range(len(heaps)):
        while heaps[dove]:
            deed = uppermost_deed(heaps, dove)
            do_in(heaps, deed)
            deeds.append(deed)
    return deeds


def struck(words, other):
    """None, or a rising list of pairs of places (low, high) without which other is left of words."""
    pairs = []
    open_places = []
    kept = 0
    for place, word in enumerate(words):
        # Where all since the last one kept is struck, whatever may be kept can be kept at once:
        # all up to a later place of that word is then struck, too, if that one could be.
        if not open_places and kept < len(other) and other[kept] == word:
            kept += 1
        elif open_places and words[open_places[-1]] == word:
            pairs.append((open_places.pop(), place))
        else:
            open_places.append(place)
    if open_places or kept < len(other):
        return None
    return sorted(pairs)


def may_come(one, other):
    """Whether pecks and peace lead from one standing to another one."""
    need_same(one, other)
    pairs = pairs_in(one)
    return all([struck(line(one, low, high), line(other, low, high)) is not None for low, high in pairs])
