"""Texts of standings: `1:ab 2:c | - | 0:ab`."""

from grudgecote.errors import BadText
from grudgecote.standings import is_standing


def number_in(text, most):
    """The number of this text, in at most so many plain figures; None where there is none."""
    # To int blanks, plus signs and figures of other scripts are right, too.
    if not 1 <= len(text) <= most or not all(["0" <= sign <= "9" for sign in text]):
        return None
    if len(text) > 1 and text[0] == "0":
        return None
    return int(text)


def heap_text(heap):
    """A HEAP's text."""
    if not heap:
        return "-"
    return " ".join([f"{about}:{word}" for about, word in heap])


def standing_text(standing):
    """A STANDING's text."""
    return " | ".join([heap_text(heap) for heap in standing])


def grudge_in(text, most):
    """The pair of this text, right or not, its number None where it isn't one of at most so many figures."""
    figures, _, word = text.partition(":")
    return (number_in(figures, most), word)


def heap_in(text, most):
    """The tuple of such pairs of this text."""
    if text == "-":
        return ()
    return tuple([grudge_in(part, most) for part in text.split(" ")])


def standing_in(text):
    """The STANDING of just this text."""
    heaps = text.split(" | ")
    # No dove that is there has more figures than how many there are; int refuses very long numbers.
    most = len(str(len(heaps)))
    standing = tuple([heap_in(heap, most) for heap in heaps])
    if not is_standing(standing):
        raise BadText(text)
    return standing
