"""What several test files need."""

import copy
import itertools
import random

from grudgecote.errors import Asleep, Awake, Bare, NoDove, NoPeace, Own

SIGNS = "abcdefghijklmnopqrstuvwxyz"
HUGE = 10 ** 5000
# What things are made of: numbers, True, False, None, texts.
ATOMS = [0, 1, 2, 3, -1, -3, 10 ** 20, True, False, None, "", "a", "zz", "abcdef", "abcdefg", "A"]


def as_lists(thing):
    """The thing with a list for each tuple."""
    if isinstance(thing, (list, tuple)):
        return [as_lists(part) for part in thing]
    return thing


def as_tuples(thing):
    """The thing with a tuple for each list."""
    if isinstance(thing, (list, tuple)):
        return tuple(as_tuples(part) for part in thing)
    return thing


def mixed(thing, depth=0):
    """The thing with lists and tuples by turns, level by level."""
    if isinstance(thing, (list, tuple)):
        parts = [mixed(part, depth + 1) for part in thing]
        return parts if depth % 2 == 0 else tuple(parts)
    return thing


def guises(thing):
    """The thing as it may be handed in: in tuples, in lists, in both."""
    return [as_tuples(thing), as_lists(thing), mixed(thing), mixed(thing, 1)]


def places_in(thing):
    """The way to each part of the thing, the bare way to itself first."""
    found = [()]
    if isinstance(thing, (list, tuple)):
        for place, part in enumerate(thing):
            found.extend((place,) + way for way in places_in(part))
    return found


def at(thing, way):
    """The part to which the way leads."""
    for place in way:
        thing = thing[place]
    return thing


def with_part(thing, way, part):
    """The thing with another part there."""
    if not way:
        return part
    kept = list(thing)
    kept[way[0]] = with_part(thing[way[0]], way[1:], part)
    return thing.__class__(kept)


def nested(core, depth=10):
    """The core so deep in lists and tuples, in several ways."""
    for kinds in range(16):
        thing = core
        for level in range(depth):
            thing = (thing,) if kinds >> level % 4 & 1 else [thing]
        yield thing


def others_like(thing, atoms):
    """The thing with one part of it of another kind or worth, left out, or twice."""
    for way in places_in(thing):
        part = at(thing, way)
        parts = atoms + [(), [], (0,), [0], (0, 1), [0, 1], [(0, 1), (1, 0)], (part,), [part]]
        if isinstance(part, (list, tuple)):
            parts += [list(part), tuple(part), part[1:], part[:-1], part + part[:1], part[::-1]]
            parts += [part.__class__([*part, worth]) for worth in (0, None, (0, 0))]
        for other in parts:
            yield with_part(thing, way, other)


def texts_like(text, signs):
    """The text with one sign left out, and with one of these put in or in the place of another."""
    found = [text[:place] + text[place + 1:] for place in range(len(text))]
    for sign in signs:
        found += [text[:place] + sign + text[place:] for place in range(len(text) + 1)]
        found += [text[:place] + sign + text[place + 1:] for place in range(len(text))]
    return found


def random_thing(chance, depth, atoms):
    """Any thing of these atoms, in tuples and lists at most so deep."""
    if depth == 0 or chance.random() < 0.3:
        return chance.choice(atoms)
    parts = [random_thing(chance, depth - 1, atoms) for _ in range(chance.randint(0, 3))]
    return tuple(parts) if chance.random() < 0.7 else parts


def random_standing(chance, doves=None, grudges=None):
    """A standing of so many doves and grudges, or of as many as come."""
    many = chance.randint(1, 8) if doves is None else doves
    heaps = [[] for _ in range(many)]
    if many > 1:
        for _ in range(chance.randint(0, 24) if grudges is None else grudges):
            dove = chance.randrange(many)
            about = chance.choice([k for k in range(many) if k != dove])
            word = "".join(chance.choice(SIGNS) for _ in range(chance.randint(1, 6)))
            heaps[dove].append((about, word))
    return as_tuples(heaps)


def random_standings(seed, many):
    """So many standings, the same for the same seed."""
    chance = random.Random(seed)
    return [random_standing(chance) for _ in range(many)]


def random_alike(chance, doves=None, grudges=None):
    """A standing of words that are often alike."""
    standing = random_standing(chance, doves, grudges)
    return tuple(tuple((about, "ab"[len(word) % 2]) for about, word in heap) for heap in standing)


def random_asleep(chance, standing):
    """A rising list of some of its doves, perhaps none, perhaps all."""
    share = chance.choice([0, 0.2, 0.5, 0.8, 1])
    return [dove for dove in range(len(standing)) if chance.random() < share]


def after_peck(standing, dove):
    """What a let peck leads to, and the dove that got it."""
    heaps = as_lists(standing)
    about, word = heaps[dove][-1]
    heaps[dove] = heaps[dove][:-1]
    heaps[about] = heaps[about] + [(dove, word)]
    return as_tuples(heaps), about


def may_peck(standing, asleep):
    """The doves that may peck."""
    return [dove for dove, heap in enumerate(standing) if heap and dove not in asleep]


def wander(chance, standing, asleep, many):
    """At most so many pecks by chance: the row, and what each of them leads to."""
    row = []
    ways = [standing]
    while len(row) < many and may_peck(ways[-1], asleep):
        row.append(chance.choice(may_peck(ways[-1], asleep)))
        ways.append(after_peck(ways[-1], row[-1])[0])
    return row, ways


def all_led(standing, asleep=()):
    """All standings that pecks lead to, found one by one."""
    found = {standing: True}
    left = [standing]
    while left:
        here = left.pop()
        for dove in may_peck(here, asleep):
            there = after_peck(here, dove)[0]
            if there not in found:
                found[there] = True
                left.append(there)
    return list(found)


def tinkered(chance, standing):
    """The standing with something put in, taken out, changed or moved, which no peck does."""
    heaps = as_lists(standing)
    dove = chance.randrange(len(heaps))
    heap = heaps[dove]
    place = chance.randint(0, len(heap))
    deed = chance.choice(["in", "out", "word", "swap", "about"])
    others = [about for about in range(len(heaps)) if about != dove]
    if deed == "in" and others:
        heap.insert(place, [chance.choice(others), chance.choice("ab")])
    elif place < len(heap) and deed == "out":
        heap.pop(place)
    elif place < len(heap) and deed == "word":
        heap[place][1] = chance.choice("ab")
    elif place < len(heap) and deed == "swap":
        heap.append(heap.pop(place))
    elif place < len(heap) and deed == "about":
        heap[place][0] = chance.choice(others)
    return as_tuples(heaps)


def random_pair(chance, standing, asleep):
    """Two standings of as many doves: led to one another, tinkered with, shuffled or of any kind."""
    one = wander(chance, standing, asleep, chance.choice([0, 3, 30]))[1][-1]
    kind = chance.choice(["led", "back", "tinkered", "shuffled", "any"])
    if kind == "any":
        return one, random_standing(chance, len(standing), sum(len(heap) for heap in standing))
    other = wander(chance, one, asleep, chance.choice([0, 1, 5, 60]))[1][-1]
    if kind == "tinkered":
        for _ in range(chance.choice([1, 1, 2, 5])):
            other = tinkered(chance, other)
    if kind == "shuffled":
        return one, shuffled(chance, other)
    return (other, one) if kind == "back" else (one, other)


def random_pairs(seed, many):
    """So many triples (one, other, asleep), of few doves and many, of words alike and unlike."""
    chance = random.Random(seed)
    found = []
    for _ in range(many):
        standing = random_standing(chance, chance.randint(1, 8), chance.choice([0, 3, 8, 16, 24]))
        if chance.random() < 0.5:
            standing = as_tuples([[(about, "ab"[len(word) % 2]) for about, word in heap] for heap in standing])
        asleep = random_asleep(chance, standing)
        found.append((*random_pair(chance, standing, asleep), asleep))
    return found


def random_gifts(chance, doves=None, grudges=None):
    """A triple (one, other, asleep) that no line and no heap bars: a row leads there, or a ring bars it."""
    many = chance.randint(3, 8) if doves is None else doves
    # Two who sleep and two awake are the fewest of a ring.
    asleep = sorted(chance.sample(range(many), chance.randint(min(2, many - 2), max(2, many - 2))))
    heaps = [[] for _ in range(many)]
    awake = [dove for dove in range(many) if dove not in asleep]
    for _ in range(chance.choice([3, 8, 16, 24]) if grudges is None else grudges):
        dove = chance.choice(awake if chance.random() < 0.9 else range(many))
        wanted = asleep if chance.random() < 0.8 else range(many)
        about = chance.choice([about for about in wanted if about != dove] or [(dove + 1) % many])
        heaps[dove].append((about, chance.choice("abc")))
    one = as_tuples(heaps)
    other = wander(chance, one, asleep, chance.choice([5, 200, 200]))[1][-1]
    return one, shuffled(chance, other, still_by_hand(one, other, asleep)), asleep


def gone_by_hand(standing, row, asleep):
    """What a row of pecks leads to; None where one of them isn't let."""
    for dove in row:
        if dove not in may_peck(standing, asleep):
            return None
        standing = after_peck(standing, dove)[0]
    return standing


def shuffled(chance, standing, lowest=None):
    """The standing with grudges shuffled in each heap, but those beneath the lowest place; all lines stay."""
    heaps = []
    for dove, heap in enumerate(standing):
        start = 0 if lowest is None else lowest[dove]
        words = {about: [word for target, word in heap[start:] if target == about] for about, _ in heap}
        abouts = [about for about, _ in heap[start:]]
        chance.shuffle(abouts)
        heaps.append(heap[:start] + tuple((about, words[about].pop(0)) for about in abouts))
    return tuple(heaps)


def line_by_hand(standing, one, other):
    """Put together grudge by grudge."""
    words = []
    for about, word in standing[one]:
        if about == other:
            words.append(word)
    many = len(words)
    for about, word in standing[other]:
        if about == one:
            words.insert(many, word)
    return tuple(words)


def still_by_hand(one, other, asleep):
    many = []
    for dove, heap in enumerate(one):
        left = sum(1 for about, _ in other[dove] if about in asleep)
        upto = 0
        for place, (about, _) in enumerate(heap):
            if dove in asleep:
                upto = place + 1
            elif about in asleep and left:
                left -= 1
                upto = place + 1
        many.append(upto)
    return tuple(many)


def lines_barring(one, other):
    """All ("line", one, other, place) that can be shown, rising."""
    found = []
    for low, high in itertools.combinations(range(len(one)), 2):
        both = itertools.zip_longest(line_by_hand(one, low, high), line_by_hand(other, low, high))
        found.extend(("line", low, high, place) for place, (here, there) in enumerate(both) if here != there)
    return found


def heaps_barring(one, other, asleep):
    """All ("heap", dove, place) that can be shown, rising."""
    found = []
    for dove, many in enumerate(still_by_hand(one, other, asleep)):
        there = list(other[dove]) + [None] * many
        found.extend(("heap", dove, place) for place in range(many) if one[dove][place] != there[place])
    return found


def names_in(standing):
    """For each (dove, place) which grudge it is, by its pair and its place in their line."""
    names = {}
    for dove, heap in enumerate(standing):
        for place, (about, _) in enumerate(heap):
            ahead = [target for target, _ in heap[:place]].count(about)
            low, high = sorted([dove, about])
            many = len(line_by_hand(standing, low, high))
            names[dove, place] = (low, high, ahead if dove == low else many - 1 - ahead)
    return names


def givings_by_hand(one, other, asleep):
    """Of two standings that no line and no heap bars: each GIVING, and where it lies in other."""
    where = {name: at for at, name in names_in(other).items()}
    lies = {}
    for (dove, place), name in sorted(names_in(one).items()):
        about = one[dove][place][0]
        if dove not in asleep and about in asleep and where[name][0] == about:
            lies[dove, place] = where[name]
    return lies


def waits_by_hand(one, other, asleep):
    return waits_of(givings_by_hand(one, other, asleep))


def waits_of(lies):
    """The rising list of who waits for whom, of givings and of where each lies in the end."""
    pairs = []
    for dove, place in lies:
        above = [giving for giving in lies if giving[0] == dove and giving[1] > place]
        if above:
            pairs.append(((dove, place), min(above)))
        sleeper, height = lies[dove, place]
        pairs.extend(((dove, place), giving) for giving in lies if lies[giving] == (sleeper, height - 1))
    return [pair for place, pair in enumerate(sorted(pairs)) if pair not in sorted(pairs)[:place]]


def rings_by_hand(pairs):
    """All rings of these waits, from each of their givings on."""
    found = []
    ways = [[first] for first in sorted({first for first, _ in pairs})]
    while ways:
        way = ways.pop()
        for first, second in pairs:
            if first == way[-1] and second == way[0]:
                found.append(way)
            if first == way[-1] and second not in way:
                ways.append(way + [second])
    return found


def wished(wish, standing):
    """Whether each told dove has its heap there."""
    return all(heap is None or heap == there for heap, there in zip(wish, standing))


def bars_by_hand(one, other, asleep):
    """All that shows_bar holds for."""
    found = lines_barring(one, other) + heaps_barring(one, other, asleep)
    if not found:
        found = [("ring", ring) for ring in rings_by_hand(waits_by_hand(one, other, asleep))]
    return found


def strikings(words):
    """All that is left of words by striking neighbours alike, found one by one."""
    found = {tuple(words): True}
    left = [tuple(words)]
    while left:
        here = left.pop()
        for place in range(len(here) - 1):
            there = here[:place] + here[place + 2:]
            if here[place] == here[place + 1] and there not in found:
                found[there] = True
                left.append(there)
    return list(found)


def end_by_hand(words):
    """The one thing left that has no neighbours alike."""
    ends = [left for left in strikings(words) if all(one != two for one, two in zip(left, left[1:]))]
    return ends[0] if len(ends) == 1 else ends


def may_by_hand(standing):
    """The pairs who may make peace."""
    tops = {dove: heap[-1] for dove, heap in enumerate(standing) if heap}
    return [(one, two) for one, two in itertools.combinations(sorted(tops), 2)
            if tops[one][0] == two and tops[two] == (one, tops[one][1])]


def lines_left(standing):
    """What is left of each line in the end."""
    pairs = itertools.combinations(range(len(standing)), 2)
    ends = [(one, other, end_by_hand(line_by_hand(standing, one, other))) for one, other in pairs]
    return [triple for triple in ends if triple[2]]


def refusal_by_hand(standing, asleep, deed):
    """None, or the refusal of one deed of a cote: its class and its field."""
    word, *handed = deed
    for dove in handed[:2 if word in ("peace", "lay") else 1]:
        if dove not in range(len(standing)):
            return NoDove, {"dove": dove}
    sleepers = [dove for dove in handed[:2] if dove in asleep]
    if word in ("peck", "peace", "sleep") and sleepers:
        return Asleep, {"dove": sleepers[0]}
    if word == "wake" and not sleepers:
        return Awake, {"dove": handed[0]}
    if word == "peck" and not standing[handed[0]]:
        return Bare, {"dove": handed[0]}
    if word == "peace" and tuple(sorted(handed)) not in may_by_hand(standing):
        return NoPeace, {}
    if word == "lay" and handed[0] == handed[1]:
        return Own, {"dove": handed[0]}
    return None


def after_by_hand(standing, asleep, deed):
    """What one deed of a cote that isn't refused leads to, and what it tells."""
    word, *handed = deed
    told = None
    if word == "peck":
        told = standing[handed[0]][-1]
        standing = after_peck(standing, handed[0])[0]
    elif word == "peace":
        standing = tuple(heap[:-1] if dove in handed else heap for dove, heap in enumerate(standing))
    elif word == "lay":
        more = (tuple(handed[1:]),)
        standing = tuple(heap + more if dove == handed[0] else heap for dove, heap in enumerate(standing))
    elif word == "sleep":
        asleep = tuple(sorted({*asleep, handed[0]}))
    elif word == "wake":
        asleep = tuple(sorted({*asleep} - {handed[0]}))
    return standing, asleep, told


class CoteByHand:
    """A cote of which nothing is kept but how it began, what stands and what was done."""

    def __init__(self, standing, asleep):
        self.began = (standing, tuple(asleep))
        self.stand = []
        self.done = []

    def behind(self, many):
        """The standing and who sleeps behind the first so many deeds that stand."""
        standing, asleep = self.began
        for deed in self.stand[:many]:
            for one in [("peck", dove) for dove in deed[1]] if deed[0] == "go" else [deed]:
                standing, asleep, _ = after_by_hand(standing, asleep, one)
        return standing, asleep

    def do(self, deed):
        """The refusal and what is told; of one that isn't refused it is done."""
        if deed == ("undo",):
            if not self.stand:
                return None, False
            self.stand.pop()
            self.done.append(deed)
            return None, True
        standing, asleep = self.behind(len(self.stand))
        told = []
        for one in [("peck", dove) for dove in deed[1]] if deed[0] == "go" else [deed]:
            refusal = refusal_by_hand(standing, asleep, one)
            if refusal is not None:
                return refusal, None
            standing, asleep, gift = after_by_hand(standing, asleep, one)
            told.append(gift)
        self.stand.append(deed)
        self.done.append(deed)
        return None, told if deed[0] == "go" else told[0]


def random_deed(chance, standing, asleep):
    """A deed or an undo for a cote, let or not, told as its log tells it."""
    doves = range(len(standing))
    wrong = [-1, -len(standing), len(standing), len(standing) + 5]
    dove, other = (chance.choice(wrong if chance.random() < 0.04 else doves) for _ in range(2))
    word = chance.choice(["peck", "peck", "go", "peace", "peace", "lay", "lay", "sleep", "wake", "undo"])
    if word == "go":
        row = wander(chance, standing, asleep, chance.randint(0, 6))[0]
        if chance.random() < 0.3:
            row.insert(chance.randint(0, len(row)), dove)
        return ("go", tuple(row))
    if word == "peace":
        pairs = may_by_hand(standing)
        if pairs and chance.random() < 0.8:
            dove, other = chance.sample(chance.choice(pairs), 2)
        # No dove makes peace with itself.
        return ("peace", dove, other if other != dove else dove + 1)
    if word == "lay":
        return ("lay", dove, other, chance.choice(["a", "a", "b", "abcdef"]))
    return ("undo",) if word == "undo" else (word, dove)


def with_kinds(thing):
    """The thing with the kind of each part: True is not 1, and a tuple is no list."""
    if isinstance(thing, (list, tuple)):
        return (thing.__class__, [with_kinds(part) for part in thing])
    if isinstance(thing, dict):
        return (thing.__class__, [(name, with_kinds(part)) for name, part in thing.items()])
    return (thing.__class__, thing)


def lists_in(thing):
    """All lists in the thing, the thing among them."""
    found = [thing] if isinstance(thing, list) else []
    if isinstance(thing, (list, tuple)):
        for part in thing:
            found.extend(lists_in(part))
    return found


class Promises:
    """What [2] says of each call; beside unittest.TestCase."""

    def same(self, got, wanted):
        """Alike, and of the same kinds throughout."""
        self.assertEqual(with_kinds(got), with_kinds(wanted))

    def calls(self, function, handed, asleep):
        """The calls that are one and the same, and what they hand in.

        All may be in lists or tuples, by place or by name; who sleeps by name alone, and left
        out where all are awake.
        """
        for guise in range(4):
            given = {name: guises(thing)[guise] for name, thing in handed.items()}
            named = {} if asleep is None else {"asleep": guises(asleep)[guise]}
            yield given, named, lambda: function(*given.values(), **named)
            yield given, named, lambda: function(**given, **named)
            if asleep is not None and not asleep:
                yield given, named, lambda: function(*given.values())
                yield given, named, lambda: function(**given)

    def stays(self, function, handed, asleep, check):
        """Make the check of each call; what is handed in stays as it was."""
        for given, named, call in self.calls(function, handed, asleep):
            before = copy.deepcopy((given, named))
            check(call)
            self.same((given, named), before)
        if asleep is not None:
            self.assertRaises(TypeError, function, *handed.values(), asleep)

    def told(self, wanted, function, *, asleep=None, **handed):
        """What is told, and told again when the asker has spoilt what was told."""
        def check(call):
            told = call()
            again = call()
            self.same(told, wanted)
            lists = lists_in(told) + lists_in(again)
            self.assertEqual(len({id(part) for part in lists}), len(lists))
            for part in lists_in(told):
                part.append("spoilt")
                part.reverse()
            self.same(again, wanted)
            self.same(call(), wanted)

        self.stays(function, handed, asleep, check)

    def refused(self, kind, field, function, *, asleep=None, **handed):
        """The same of a refusal: of just this class, with just this field."""
        def check(call):
            with self.assertRaises(kind) as caught:
                call()
            self.assertIs(caught.exception.__class__, kind)
            self.same(vars(caught.exception), field)

        self.stays(function, handed, asleep, check)
