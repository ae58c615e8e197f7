"""shows_row and shows_bar, of what shows it and of each thing that doesn't."""

import copy
import itertools
import random
import unittest

from grudgecote.between import between
from grudgecote.checks import shows_bar, shows_row
from grudgecote.errors import NotSame

from tests.helper import (
    HUGE, Promises, all_led, bars_by_hand, gone_by_hand, guises, nested, others_like, random_gifts, random_pairs,
    random_thing, shuffled, wander, with_kinds)

ATOMS = [0, 1, 2, 3, 4, -1, -2, HUGE, -HUGE, True, False, None, "", "0", "a", "row", "line", "heap", "ring"]
# Dove 2 sleeps and holds what it got; dove 0 can't give what lies lowest, where it keeps it.
HOLDS = (((2, "a"), (1, "b"), (2, "c")), (), ((1, "d"),))
RINGED = ((((2, "a"), (3, "b")), ((3, "c"), (2, "d")), (), ()),
          ((), (), ((0, "a"), (1, "d")), ((1, "c"), (0, "b"))))
RING = [(0, 0), (0, 1), (1, 0), (1, 1)]


def turns(ring):
    """The ring from each of its givings on."""
    return [ring[start:] + ring[:start] for start in range(len(ring))]


class Asks(Promises):

    def asked(self, function, wanted, one, other, thing, asleep=()):
        """Standings and sleepers in all guises; the thing just as it is."""
        for guise in range(4):
            here, there, some = (guises(told)[guise] for told in (one, other, asleep))
            before = copy.deepcopy((here, there, some, thing))
            self.assertIs(function(here, there, thing, asleep=some), wanted)
            self.assertIs(function(one=here, other=there, thing=thing, asleep=some), wanted)
            if not asleep:
                self.assertIs(function(here, there, thing), wanted)
                self.assertIs(function(one=here, other=there, thing=thing), wanted)
            self.same((here, there, some, thing), before)

    def needs_same(self, function):
        for thing in ([], (), None, ("line", 0, 1, 0), ("heap", 0, 0), ("ring", [(0, 0), (0, 1)]), "row", [0, 9]):
            for asleep in ((), [0]):
                for one, other in ((((),), ((), ())), (((), ()), ((),)), (HOLDS, HOLDS + ((),))):
                    with self.assertRaises(NotSame) as caught:
                        function(one, other, thing, asleep=asleep)
                    self.same(vars(caught.exception), {})
        self.assertRaises(TypeError, function, HOLDS, HOLDS, [], ())


class ShowsRow(Asks, unittest.TestCase):

    def test_a_row_that_leads_there(self):
        behind = (((2, "a"),), ((0, "b"),), ((1, "d"), (0, "c")))
        for asleep in ((), [2], [1], [1, 2]):
            self.asked(shows_row, True, HOLDS, behind, [0, 0], asleep)
        self.asked(shows_row, True, HOLDS, HOLDS, [0, 2])
        self.asked(shows_row, True, HOLDS, HOLDS, [0, 2, 2, 1], ())
        self.asked(shows_row, True, ((),), ((),), [], [0])

    def test_a_bare_row_leads_to_the_standing_itself_alone(self):
        for asleep in ((), [0], [0, 1, 2]):
            self.asked(shows_row, True, HOLDS, HOLDS, [], asleep)
            self.asked(shows_row, False, HOLDS, (((2, "a"), (1, "b")), (), ((1, "d"), (0, "c"))), [], asleep)

    def test_one_that_leads_elsewhere(self):
        behind = (((2, "a"),), ((0, "b"),), ((1, "d"), (0, "c")))
        for row in ([], [0], [0, 0, 0], [2], [0, 0, 1], [2, 0, 0]):
            self.asked(shows_row, False, HOLDS, behind, row)
        self.asked(shows_row, False, HOLDS, (((2, "a"),), ((0, "x"),), ((1, "d"), (0, "c"))), [0, 0])

    def test_each_peck_has_to_be_let(self):
        self.asked(shows_row, True, HOLDS, HOLDS, [0, 2], [1])
        self.asked(shows_row, False, HOLDS, HOLDS, [0, 2], [2])
        self.asked(shows_row, False, HOLDS, HOLDS, [0, 2], [0])
        for row in ([1], [3], [-1], [-3], [HUGE], [-HUGE], [0, 2, 1], [1, 0, 2], [0, 2, 3]):
            self.asked(shows_row, False, HOLDS, HOLDS, row)
        # One below 0 must not be read from the end.
        self.asked(shows_row, False, HOLDS, HOLDS, [0, -1])
        self.asked(shows_row, False, HOLDS, HOLDS, [-3, -1])

    def test_just_a_list_of_numbers(self):
        one = (((1, "a"), (1, "b")), ((0, "c"),))
        self.asked(shows_row, True, one, one, [1, 0])
        self.asked(shows_row, True, one, one, [0, 1])
        for thing in ((1, 0), ("row", [1, 0]), ["row", [1, 0]], [True, 0], [1, False], [True, False], [[1], [0]],
                      [[1, 0]], [(1, 0)], "10", ["1", "0"], [1, 0, None], [None], None, True, False, 0, 1, "", "row",
                      (), ((),), [()], [[]], ("row", [])):
            self.asked(shows_row, False, one, one, thing)
        for core in ([], [1, 0], (1, 0), 0, None):
            for depth in range(1, 11):
                for thing in nested(core, depth):
                    if thing != [0]:
                        self.asked(shows_row, False, one, one, thing)

    def test_rows_told_and_parts_of_them(self):
        chance = random.Random("shows_row")
        for _ in range(60):
            one, other, asleep = random_gifts(chance)
            kind, row = between(one, other, asleep=asleep)
            if kind == "row":
                self.asked(shows_row, True, one, other, row, asleep)
                self.asked(shows_row, False, one, other, tuple(row), asleep)
                self.asked(shows_row, False, one, other, (kind, row), asleep)
            else:
                self.asked(shows_row, False, one, other, row, asleep)
            walked, ways = wander(chance, one, asleep, 200)
            self.asked(shows_row, True, one, ways[-1], walked, asleep)
            for some in (walked[:-1], walked[1:], walked + [0], walked[::-1], walked + walked, [-1], [8]):
                wanted = gone_by_hand(one, some, asleep) == ways[-1]
                self.asked(shows_row, wanted, one, ways[-1], some, asleep)

    def test_all_short_rows_of_small_ones(self):
        one = (((1, "a"), (2, "b")), ((2, "a"),), ())
        for asleep in ([], [1], [2], [0, 2]):
            for length in range(5):
                for row in itertools.product(range(3), repeat=length):
                    behind = gone_by_hand(one, row, asleep)
                    self.assertIs(shows_row(one, one, list(row), asleep=asleep), behind == one)
                    if behind is not None:
                        self.assertIs(shows_row(one, behind, list(row), asleep=asleep), True)

    def test_any_other_thing(self):
        chance = random.Random("any other thing")
        one = (((1, "a"), (1, "b")), ((0, "c"),))
        right = [with_kinds(list(row)) for length in range(5) for row in itertools.product((0, 1), repeat=length)
                 if gone_by_hand(one, row, []) == one]
        things = list(others_like([1, 0, 0, 1], ATOMS)) + [random_thing(chance, 3, ATOMS) for _ in range(2000)]
        self.assertGreater(len([thing for thing in things if with_kinds(thing) in right]), 5)
        for thing in things:
            if not (isinstance(thing, list) and len(thing) > 4):
                self.assertIs(shows_row(one, one, thing), with_kinds(thing) in right)

    def test_refused_of_unlike_many_doves(self):
        self.needs_same(shows_row)


class ShowsBar(Asks, unittest.TestCase):

    def test_lines_of_any_two_and_any_place(self):
        one = (((1, "a"), (1, "b")), ((2, "c"),), ())
        other = (((1, "a"), (1, "x"), (1, "d")), ((2, "c"),), ((0, "e"),))
        right = [("line", 0, 1, 1), ("line", 0, 1, 2), ("line", 0, 2, 0)]
        for asleep in ((), [0], [0, 1, 2]):
            for low, high, place in itertools.product(range(-4, 5), repeat=3):
                thing = ("line", low, high, place)
                self.assertIs(shows_bar(one, other, thing, asleep=asleep), thing in right)
                self.assertIs(shows_bar(other, one, thing, asleep=asleep), thing in right)
        for thing in right:
            self.asked(shows_bar, True, one, other, thing)
            self.asked(shows_bar, True, one, other, thing, [1])
            self.asked(shows_bar, False, one, other, list(thing))
        for place in (HUGE, -HUGE):
            self.asked(shows_bar, False, one, other, ("line", 0, 1, place))
            self.asked(shows_bar, False, one, other, ("line", 0, place, 0))
            self.asked(shows_bar, False, one, other, ("line", place, 1, 0))

    def test_none_of_like_lines(self):
        for low, high, place in itertools.product(range(-1, 4), repeat=3):
            self.assertIs(shows_bar(HOLDS, HOLDS, ("line", low, high, place)), False)

    def test_heaps_of_any_dove_and_any_place(self):
        other = (((1, "b"), (2, "a"), (2, "c")), ((2, "d"),), ())
        asleep = [2]
        right = [("heap", 0, 0), ("heap", 0, 1), ("heap", 2, 0)]
        for dove, place in itertools.product(range(-4, 5), repeat=2):
            thing = ("heap", dove, place)
            self.assertIs(shows_bar(HOLDS, other, thing, asleep=asleep), thing in right)
        for thing in right:
            self.asked(shows_bar, True, HOLDS, other, thing, asleep)
            self.asked(shows_bar, False, HOLDS, other, thing)
            self.asked(shows_bar, False, HOLDS, other, list(thing), asleep)
        for worth in (HUGE, -HUGE):
            self.asked(shows_bar, False, HOLDS, other, ("heap", 0, worth), asleep)
            self.asked(shows_bar, False, HOLDS, other, ("heap", worth, 0), asleep)

    def test_heaps_whether_lines_are_alike_or_not(self):
        one = ((), ((0, "a"), (0, "b")))
        cases = [
            ((((1, "b"), (1, "a")), ()), [0, 1]),
            ((((1, "b"),), ((0, "a"),)), [1]),
            (((), ((0, "a"),)), [1]),
            (((), ()), [0, 1]),
            (((), ((0, "x"), (0, "b"))), [0]),
            (((), ((0, "a"), (0, "b"), (0, "c"))), []),
        ]
        for other, right in cases:
            for place in range(-1, 4):
                self.asked(shows_bar, place in right, one, other, ("heap", 1, place), [1])
                self.asked(shows_bar, False, one, other, ("heap", 0, place), [1])
                self.asked(shows_bar, False, one, other, ("heap", 1, place), [])

    def test_rings_from_any_of_their_givings_on(self):
        for ring in turns(RING):
            self.asked(shows_bar, True, *RINGED, ("ring", ring), [2, 3])
            self.asked(shows_bar, False, *RINGED, ("ring", ring[::-1]), [2, 3])
            self.asked(shows_bar, False, *RINGED, ("ring", tuple(ring)), [2, 3])
            self.asked(shows_bar, False, *RINGED, ("ring", [list(giving) for giving in ring]), [2, 3])
            self.asked(shows_bar, False, *RINGED, ["ring", ring], [2, 3])
            self.asked(shows_bar, False, *RINGED, ("ring", *ring), [2, 3])
            self.asked(shows_bar, False, *RINGED, ring, [2, 3])
            self.asked(shows_bar, False, *RINGED, ("ring", ring + ring), [2, 3])
            self.asked(shows_bar, False, *RINGED, ("ring", ring[:3]), [2, 3])
            self.asked(shows_bar, False, *RINGED, ("ring", ring + ring[:1]), [2, 3])
            for asleep in ((), [2], [3], [0, 1], [0, 1, 2, 3]):
                self.asked(shows_bar, False, *RINGED, ("ring", ring), asleep)

    def test_true_and_false_are_no_numbers_in_rings(self):
        for ring in ([(0, 0), (0, True), (1, 0), (1, 1)], [(False, 0), (0, 1), (1, 0), (1, 1)],
                     [(0, 0), (0, 1), (True, 0), (1, 1)], [(0, False), (0, 1), (1, 0), (1, 1)]):
            self.asked(shows_bar, False, *RINGED, ("ring", ring), [2, 3])

    def test_short_rings_and_such_that_are_none(self):
        for ring in ([], [(0, 0)], [(0, 0), (0, 0)], [(0, 0), (0, 1)], [(0, 1), (0, 0)], [()], [(), ()], [0, 1],
                     [(0, 0, 0), (0, 1, 0)], [(0,), (1,)], [None], [None, None], ["ab", "cd"], [[], []],
                     [((0, 0), (0, 1))], [(0, 0), [0, 1]], [([], []), ([], [])], [(0, [0]), (1, [0])], "ring", None, 0,
                     [(-4, 0), (-4, 1), (-3, 0), (-3, 1)], [(0, HUGE), (HUGE, 0)], RING[:2], [*RING, (2, 0)]):
            self.asked(shows_bar, False, *RINGED, ("ring", ring), [2, 3])
            self.asked(shows_bar, False, RINGED[0], RINGED[0], ("ring", ring), [2, 3])

    def test_rings_only_where_no_line_and_no_heap_bars(self):
        one, other = RINGED
        cases = [
            (one[:2] + ((), ((2, "x"),)), other[:2] + (other[2], ((2, "y"),) + other[3]), ("line", 2, 3, 0)),
            (one[:2] + (((3, "x"),), ((2, "y"),)), other[:2] + (((3, "x"),) + other[2], other[3] + ((2, "y"),)),
             ("heap", 3, 0)),
        ]
        for here, there, bar in cases:
            self.asked(shows_bar, True, here, there, bar, [2, 3])
            for ring in turns(RING):
                self.asked(shows_bar, False, here, there, ("ring", ring), [2, 3])

    def test_all_that_can_be_shown_of_many(self):
        chance = random.Random("all that can be shown")
        rings = heaps = lines = 0
        pairs = random_pairs("shows_bar", 100) + [random_gifts(chance, doves=6, grudges=14) for _ in range(80)]
        pairs += [(one, shuffled(chance, other), asleep) for one, other, asleep in pairs[:40]]
        for one, other, asleep in pairs:
            right = bars_by_hand(one, other, asleep)
            rings += any(bar[0] == "ring" for bar in right)
            heaps += any(bar[0] == "heap" for bar in right)
            lines += any(bar[0] == "line" for bar in right)
            for bar in right:
                self.asked(shows_bar, True, one, other, bar, asleep)
            for dove, place in itertools.product(range(-1, len(one) + 1), range(-1, 9)):
                thing = ("heap", dove, place)
                self.assertIs(shows_bar(one, other, thing, asleep=asleep), thing in right)
                for high in range(-1, len(one) + 1):
                    thing = ("line", dove, high, place)
                    self.assertIs(shows_bar(one, other, thing, asleep=asleep), thing in right)
        self.assertGreater(min(rings, heaps, lines), 10, (rings, heaps, lines))

    def test_just_one_of_both_can_be_shown(self):
        chance = random.Random("just one of both")
        for _ in range(40):
            one, other, asleep = random_gifts(chance, doves=4, grudges=chance.randint(2, 6))
            kind, *rest = between(one, other, asleep=asleep)
            right = bars_by_hand(one, other, asleep)
            if kind == "row":
                self.assertEqual(right, [])
                self.assertIs(shows_row(one, other, rest[0], asleep=asleep), True)
                givings = [(dove, place) for dove in range(4) for place in range(len(one[dove]))]
                for many in range(2, 5):
                    for ring in itertools.permutations(givings[:6], many):
                        self.assertIs(shows_bar(one, other, ("ring", list(ring)), asleep=asleep), False)
            else:
                self.assertIs(shows_bar(one, other, (kind, *rest), asleep=asleep), True)
                self.assertNotIn(other, all_led(one, asleep))
                for _ in range(20):
                    row = wander(chance, one, asleep, 20)[0]
                    self.assertIs(shows_row(one, other, row, asleep=asleep), False)

    def test_what_between_tells(self):
        chance = random.Random("what between tells")
        for one, other, asleep in random_pairs("what between tells", 60) + [random_gifts(chance) for _ in range(60)]:
            told = between(one, other, asleep=asleep)
            self.asked(shows_bar, told[0] != "row", one, other, told, asleep)
            self.asked(shows_row, told[0] == "row", one, other, told[1], asleep)

    def test_any_other_thing(self):
        chance = random.Random("no bar")
        cases = [(*RINGED, [2, 3], ("ring", RING)),
                 (HOLDS, (((1, "b"), (2, "a"), (2, "c")), ((2, "d"),), ()), [2], ("heap", 0, 1)),
                 (HOLDS, (((2, "x"), (1, "b")), ((2, "d"),), ()), [2], ("line", 0, 2, 0))]
        for one, other, asleep, thing in cases:
            right = [with_kinds(bar) for bar in bars_by_hand(one, other, asleep)]
            self.assertIn(with_kinds(thing), right)
            things = list(others_like(thing, ATOMS)) + [random_thing(chance, 3, ATOMS) for _ in range(500)]
            things += [deep for core in (thing, (), "line") for depth in range(1, 8) for deep in nested(core, depth)]
            for some in things:
                before = with_kinds(some)
                self.assertIs(shows_bar(one, other, some, asleep=asleep), before in right)
                self.assertEqual(with_kinds(some), before)

    def test_things_of_other_kinds(self):
        for thing in ATOMS + [(), [], ((),), [()], ("line",), ("heap",), ("ring",), ("row", []), ("row", [0]),
                              ("line", 0, 1), ("line", 0, 1, 0, 0), ("heap", 0), ("heap", 0, 0, 0), ("ring", [], []),
                              ("line", "0", 1, 0), ("line", None, 1, 0), ("heap", (0,), 0), ("heap", None, None),
                              ("line", (0, 1), 0), ("line", [0, 1, 0]), ("heap", [0, 0]), (("line",), 0, 1, 0),
                              ("Line", 0, 1, 0), ("lines", 0, 1, 0), (0, 1, 0), "line 0 1 0", ("line", 0, 1, [0])]:
            self.asked(shows_bar, False, HOLDS, (((2, "x"), (1, "y")), (), ()), thing, [2])

    def test_true_and_false_are_no_numbers(self):
        one = (((1, "a"), (1, "a")), ((0, "b"),))
        other = (((1, "x"), (1, "x")), ((0, "y"),))
        for low, high, place in itertools.product((0, False), (1, True), (0, 1, False, True)):
            wanted = bool not in (low.__class__, high.__class__, place.__class__)
            self.asked(shows_bar, wanted, one, other, ("line", low, high, place))
        for dove, place in itertools.product((0, 1, False, True), (0, False)):
            wanted = bool not in (dove.__class__, place.__class__)
            self.asked(shows_bar, wanted, one, other, ("heap", dove, place), [0, 1])

    def test_refused_of_unlike_many_doves(self):
        self.needs_same(shows_bar)


if __name__ == "__main__":
    unittest.main()
