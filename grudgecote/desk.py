"""A desk: rows of deeds and asks to a cote, answered in texts."""

from grudgecote.cote import Cote
from grudgecote.counting import how_many
from grudgecote.errors import Asleep, Awake, BadRow, BadText, Bare, NoDove, NoPeace, Own, TooMany
from grudgecote.lines import line
from grudgecote.peace import left_in_end, may_make
from grudgecote.standings import is_word
from grudgecote.texts import number_in, standing_in, standing_text

MOST_FIGURES = 2
# What stands behind each word: a number for each d, a WORD for each w, a STANDING's text for t.
FORMS = {
    "peck": "d", "peace": "dd", "lay": "ddw", "sleep": "d", "wake": "d", "undo": "",
    "standing": "", "asleep": "", "line": "dd", "may": "", "left": "", "count": "", "to": "t",
}


def joined(parts, gap=" "):
    """The texts with a gap between each two; `-` of none."""
    if not parts:
        return "-"
    return gap.join(parts)


def peck_text(cote, dove):
    """The dove that got it and the word."""
    taker, word = cote.peck(dove)
    return f"{taker} {word}"


def peace_text(cote, one, other):
    """`done`, when these two have made peace."""
    cote.peace(one, other)
    return "done"


def lay_text(cote, dove, about, word):
    """`done`, when it is laid."""
    cote.lay(dove, about, word)
    return "done"


def sleep_text(cote, dove):
    """`done`, when the dove sleeps."""
    cote.sleep(dove)
    return "done"


def wake_text(cote, dove):
    """`done`, when the dove is awake."""
    cote.wake(dove)
    return "done"


def undo_text(cote):
    """Whether a deed was undone."""
    if cote.undo():
        return "yes"
    return "no"


def own_text(cote):
    """The text of its standing."""
    return standing_text(cote.standing())


def asleep_text(cote):
    """The doves that sleep."""
    return joined([str(dove) for dove in cote.asleep()])


def line_text(cote, one, other):
    """The words of a line."""
    return joined(line(cote.standing(), one, other))


def may_text(cote):
    """The pairs who may make peace, whoever sleeps."""
    return joined([f"{one}+{other}" for one, other in may_make(cote.standing())])


def left_text(cote):
    """What is left of each line in the end, whoever sleeps."""
    triples = left_in_end(cote.standing())
    return joined([f"{one}+{other}:{joined(words)}" for one, other, words in triples], " ; ")


def count_text(cote):
    """How many standings pecks lead to, whoever sleeps."""
    return str(how_many(cote.standing()))


def to_text(cote, standing):
    """How that standing is led to, or what bars it: the word, and of lines and heaps the numbers."""
    word, *rest = cote.told(standing)
    if word in ("row", "ring"):
        return word
    return joined([word] + [str(number) for number in rest])


ANSWERS = {
    "peck": peck_text, "peace": peace_text, "lay": lay_text, "sleep": sleep_text, "wake": wake_text,
    "undo": undo_text, "standing": own_text, "asleep": asleep_text, "line": line_text, "may": may_text,
    "left": left_text, "count": count_text, "to": to_text,
}


def answer(cote, word, parts):
    """The text for a deed or an ask, or for its refusal."""
    action = ANSWERS[word]
    try:
        return action(cote, *parts)
    except NoDove:
        return "refused NoDove"
    except Own:
        return "refused Own"
    except Asleep:
        return "refused Asleep"
    except Awake:
        return "refused Awake"
    except Bare:
        return "refused Bare"
    except NoPeace:
        return "refused NoPeace"
    except TooMany:
        return "refused TooMany"


def standing_or_none(text):
    """The STANDING of just this text; None where there is none."""
    try:
        return standing_in(text)
    except BadText:
        return None


def part_in(text, kind):
    """The number, WORD or STANDING that is so written; None where it isn't."""
    if kind == "d":
        return number_in(text, MOST_FIGURES)
    if kind == "w":
        return text if is_word(text) else None
    return standing_or_none(text)


def row_in(row, doves):
    """The word of a deed or an ask to so many doves, and its parts; None where it isn't so written."""
    word, *texts = row.split(" ")
    form = FORMS.get(word)
    # A STANDING's text alone has blanks of its own.
    if form == "t":
        texts = [" ".join(texts)]
    if form is None or len(texts) != len(form):
        return None
    parts = [part_in(text, kind) for text, kind in zip(texts, form)]
    if None in parts:
        return None
    if form == "dd" and parts[0] == parts[1]:
        return None
    if form == "t" and len(parts[0]) != doves:
        return None
    return word, parts


def first_in(row):
    """The STANDING of the first row; None where it isn't so written."""
    word, _, text = row.partition(" ")
    if word != "cote":
        return None
    return standing_or_none(text)


def run(text):
    """The list of a text for each row but the first."""
    rows = text.split("\n")
    standing = first_in(rows[0])
    if standing is None:
        raise BadRow(0)
    asked = []
    for number, row in enumerate(rows[1:], start=1):
        told = row_in(row, len(standing))
        if told is None:
            raise BadRow(number)
        asked.append(told)
    cote = Cote(standing)
    return [answer(cote, word, parts) for word, parts in asked]
