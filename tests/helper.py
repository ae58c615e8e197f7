"""What several test files need."""

import copy
import random

SIGNS = "abcdefghijklmnopqrstuvwxyz"


def as_lists(thing):
    """The thing with a list for each tuple."""
    if isinstance(thing, (list, tuple)):
        return [as_lists(part) for part in thing]
    return thing


def as_tuples(thing):
    """The thing with a tuple for each list."""
    if isinstance(thing, (list, tuple)):
        return tuple(as_tuples(part) for part in thing)
    return thing


def mixed(thing, depth=0):
    """The thing with lists and tuples by turns, level by level."""
    if isinstance(thing, (list, tuple)):
        parts = [mixed(part, depth + 1) for part in thing]
        return parts if depth % 2 == 0 else tuple(parts)
    return thing


def guises(thing):
    """The thing as it may be handed in: in tuples, in lists, in both."""
    return [as_tuples(thing), as_lists(thing), mixed(thing), mixed(thing, 1)]


def random_standing(chance, doves=None, grudges=None):
    """A standing of so many doves and grudges, or of as many as come."""
    many = chance.randint(1, 8) if doves is None else doves
    heaps = [[] for _ in range(many)]
    if many > 1:
        for _ in range(chance.randint(0, 24) if grudges is None else grudges):
            dove = chance.randrange(many)
            about = chance.choice([k for k in range(many) if k != dove])
            word = "".join(chance.choice(SIGNS) for _ in range(chance.randint(1, 6)))
            heaps[dove].append((about, word))
    return as_tuples(heaps)


def random_standings(seed, many):
    """So many standings, the same for the same seed."""
    chance = random.Random(seed)
    return [random_standing(chance) for _ in range(many)]


def with_kinds(thing):
    """The thing with the kind of each part: True is not 1, and a tuple is no list."""
    if isinstance(thing, (list, tuple)):
        return (thing.__class__, [with_kinds(part) for part in thing])
    if isinstance(thing, dict):
        return (thing.__class__, [(name, with_kinds(part)) for name, part in thing.items()])
    return (thing.__class__, thing)


class Promises:
    """What [2] says of each call; beside unittest.TestCase."""

    def same(self, got, wanted):
        """Alike, and of the same kinds throughout."""
        self.assertEqual(with_kinds(got), with_kinds(wanted))

    def told(self, wanted, function, **handed):
        """All that is handed in may be in lists or tuples, by place or name; it stays as it was."""
        for guise in range(4):
            given = {name: guises(thing)[guise] for name, thing in handed.items()}
            before = copy.deepcopy(given)
            self.same(function(*given.values()), wanted)
            self.same(function(**given), wanted)
            self.same(given, before)

    def refused(self, kind, field, function, **handed):
        """The same of a refusal: of just this class, with just this field."""
        for guise in range(4):
            given = {name: guises(thing)[guise] for name, thing in handed.items()}
            before = copy.deepcopy(given)
            for call in (lambda: function(*given.values()), lambda: function(**given)):
                with self.assertRaises(kind) as caught:
                    call()
                self.assertIs(caught.exception.__class__, kind)
                self.same(vars(caught.exception), field)
            self.same(given, before)
