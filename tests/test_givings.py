"""givings and waits."""

import random
import unittest

from grudgecote.errors import Barred, NotSame
from grudgecote.givings import givings, waits

from tests.helper import (
    Promises, bars_by_hand, givings_by_hand, heaps_barring, lines_barring, random_gifts, random_pairs,
    waits_by_hand)

# Doves 0 and 1 are awake, 2 and 3 sleep and get all four grudges about them.
ONE = (((1, "a"), (2, "b"), (1, "c"), (3, "d"), (1, "e")), ((2, "f"), (3, "g")), ((3, "h"),), ())
AWAKE = (((1, "a"), (1, "c"), (1, "e")), ())
OTHER = AWAKE + (((3, "h"), (0, "b"), (1, "f")), ((1, "g"), (0, "d")))
ASLEEP = [2, 3]


class Givings(Promises, unittest.TestCase):

    def test_all_that_sleepers_get_rising(self):
        self.told([(0, 1), (0, 3), (1, 0), (1, 1)], givings, one=ONE, other=OTHER, asleep=ASLEEP)

    def test_not_what_can_not_move(self):
        other = (((1, "a"), (2, "b"), (1, "c")), ((2, "f"), (0, "e")), ((3, "h"),), ((0, "d"), (1, "g")))
        self.told([(0, 3), (1, 1)], givings, one=ONE, other=other, asleep=ASLEEP)
        self.told([], givings, one=ONE, other=ONE, asleep=ASLEEP)

    def test_none_where_all_are_awake_or_all_sleep(self):
        self.told([], givings, one=ONE, other=OTHER, asleep=())
        self.told([], givings, one=ONE, other=ONE, asleep=[0, 1, 2, 3])
        self.told([], givings, one=((),), other=((),), asleep=())

    def test_not_the_grudges_of_sleepers(self):
        one = (((1, "a"),), ((2, "b"),), ((0, "c"),))
        self.told([(0, 0)], givings, one=one, other=((), ((2, "b"), (0, "a")), ((0, "c"),)), asleep=[1, 2])

    def test_of_many(self):
        chance = random.Random("givings")
        some = 0
        for _ in range(100):
            one, other, asleep = random_gifts(chance)
            wanted = list(givings_by_hand(one, other, asleep))
            some += len(wanted) > 3
            self.told(wanted, givings, one=one, other=other, asleep=asleep)
        self.assertGreater(some, 30)


class Waits(Promises, unittest.TestCase):

    def test_the_next_one_above_and_the_one_right_beneath(self):
        wanted = [((0, 1), (0, 3)), ((0, 3), (1, 1)), ((1, 0), (0, 1)), ((1, 0), (1, 1))]
        self.told(wanted, waits, one=ONE, other=OTHER, asleep=ASLEEP)
        other = AWAKE + (((3, "h"), (1, "f"), (0, "b")), ((0, "d"), (1, "g")))
        wanted = [((0, 1), (0, 3)), ((0, 1), (1, 0)), ((1, 0), (1, 1)), ((1, 1), (0, 3))]
        self.told(wanted, waits, one=ONE, other=other, asleep=ASLEEP)

    def test_each_pair_once(self):
        one = (((1, "a"), (1, "b"), (1, "c")), ())
        other = ((), ((0, "c"), (0, "b"), (0, "a")))
        self.told([((0, 0), (0, 1)), ((0, 1), (0, 2))], waits, one=one, other=other, asleep=[1])

    def test_the_uppermost_given_is_the_lowest_there(self):
        one = (((2, "a"), (2, "a")), ((2, "a"),), ())
        other = ((), (), ((0, "a"), (1, "a"), (0, "a")))
        wanted = [((0, 0), (0, 1)), ((0, 0), (1, 0)), ((1, 0), (0, 1))]
        self.told(wanted, waits, one=one, other=other, asleep=[2])

    def test_for_none_that_was_there_already(self):
        one = (((2, "a"),), ((2, "b"),), ((0, "c"), (1, "d")))
        other = ((), ((2, "b"),), ((0, "c"), (1, "d"), (0, "a")))
        self.told([], waits, one=one, other=other, asleep=[2])

    def test_the_next_giving_above_and_not_the_next_grudge(self):
        one = (((2, "a"), (1, "x"), (1, "y"), (3, "b"), (1, "z")), (), (), ())
        other = ((), ((0, "z"), (0, "y"), (0, "x")), ((0, "a"),), ((0, "b"),))
        self.told([((0, 0), (0, 3))], waits, one=one, other=other, asleep=[2, 3])

    def test_of_many(self):
        chance = random.Random("waits")
        some = 0
        for _ in range(100):
            one, other, asleep = random_gifts(chance)
            wanted = waits_by_hand(one, other, asleep)
            some += len(wanted) > 4
            self.told(wanted, waits, one=one, other=other, asleep=asleep)
        self.assertGreater(some, 30)


class Refused(Promises, unittest.TestCase):

    def test_of_unlike_many_doves(self):
        for function in (givings, waits):
            for asleep in ((), [0]):
                self.refused(NotSame, {}, function, one=((),), other=((), ()), asleep=asleep)
                self.refused(NotSame, {}, function, one=ONE, other=ONE[:3], asleep=asleep)
                self.refused(NotSame, {}, function, one=ONE, other=((),) * 5, asleep=asleep)

    def test_of_a_line_that_is_unlike(self):
        other = AWAKE + (((3, "h"), (0, "b"), (1, "f")), ((1, "x"), (0, "d")))
        for function in (givings, waits):
            for asleep in ((), ASLEEP, [0, 1, 2, 3]):
                self.refused(Barred, {"what": ("line", 1, 3, 0)}, function, one=ONE, other=other, asleep=asleep)
                self.refused(Barred, {"what": ("line", 0, 1, 0)}, function, one=ONE, other=((),) * 4, asleep=asleep)

    def test_of_what_has_moved(self):
        one = (((1, "a"), (2, "b")), (), ())
        other = (((2, "b"),), ((0, "a"),), ())
        for function in (givings, waits):
            self.refused(Barred, {"what": ("heap", 0, 0)}, function, one=one, other=other, asleep=[2])
            self.refused(Barred, {"what": ("heap", 1, 0)}, function, one=other, other=one, asleep=[1])
            self.refused(Barred, {"what": ("heap", 0, 1)}, function, one=one, other=(one[0][:1], (), ((0, "b"),)),
                         asleep=[0])

    def test_a_line_goes_ahead_of_what_has_moved(self):
        one = (((1, "a"),), (), ((1, "b"),))
        for function in (givings, waits):
            self.refused(Barred, {"what": ("line", 1, 2, 0)}, function,
                         one=one, other=((), ((0, "a"),), ((1, "c"),)), asleep=[0, 2])

    def test_of_many(self):
        some = 0
        for one, other, asleep in random_pairs("barred", 120):
            bars = lines_barring(one, other) or heaps_barring(one, other, asleep)
            if bars:
                some += 1
                self.assertEqual(bars_by_hand(one, other, asleep)[0], bars[0])
                for function in (givings, waits):
                    self.refused(Barred, {"what": bars[0]}, function, one=one, other=other, asleep=asleep)
        self.assertGreater(some, 30)


if __name__ == "__main__":
    unittest.main()
