"""still and first_moved."""

import random
import unittest

from grudgecote.errors import NotSame
from grudgecote.still import first_moved, still

from tests.helper import (
    Promises, heaps_barring, random_asleep, random_pairs, random_standings, still_by_hand, wander)

# Dove 0 has, from below: about 1, about the sleeper 3, about 1, about the sleeper 2, about 1.
ONE = (((1, "a"), (3, "b"), (1, "c"), (2, "d"), (1, "e")), (), ((3, "f"),), ())


def other_with(kept):
    """A standing of four doves in which dove 0 has so many grudges about sleepers."""
    return (((1, "x"),) + ((2, "y"),) * kept + ((1, "z"),), (), (), ())


class Still(Promises, unittest.TestCase):

    def test_nothing_where_all_are_awake(self):
        self.told((0, 0, 0, 0), still, one=ONE, other=ONE, asleep=())
        self.told((0,), still, one=((),), other=((),), asleep=())

    def test_of_a_sleeper_its_whole_heap(self):
        self.told((0, 0, 1, 0), still, one=ONE, other=((),) * 4, asleep=[2, 3])
        self.told((5, 0, 1, 0), still, one=ONE, other=((),) * 4, asleep=[0, 1, 2, 3])
        self.told((5, 0, 1, 0), still, one=ONE, other=ONE, asleep=[0, 1, 2, 3])
        self.told((5, 0, 0, 0), still, one=ONE, other=ONE, asleep=[0])

    def test_of_an_awake_dove_up_to_the_kth_with_that(self):
        for kept, many in enumerate((0, 2, 4)):
            self.told((many, 0, 1, 0), still, one=ONE, other=other_with(kept), asleep=[2, 3])

    def test_up_to_the_last_where_there_are_fewer(self):
        for kept in (3, 4, 9):
            self.told((4, 0, 1, 0), still, one=ONE, other=other_with(kept), asleep=[2, 3])
        self.told((0, 0), still, one=((), ()), other=(((1, "a"),), ()), asleep=[1])
        self.told((0, 0, 0), still, one=(((1, "a"),), (), ()), other=(((2, "a"),), (), ()), asleep=[2])

    def test_k_is_counted_in_the_other_and_places_in_the_one(self):
        self.told((2, 0, 0, 0), still, one=other_with(0), other=ONE, asleep=[1])
        self.told((5, 0, 0, 0), still, one=ONE, other=ONE, asleep=[1])
        self.told((3, 0, 0, 0), still, one=ONE, other=other_with(0), asleep=[1])
        self.told((1, 0, 0, 0), still, one=(((1, "a"), (2, "b"), (1, "c"), (1, "d")), (), (), ()),
                  other=(((2, "b"), (1, "a")), (), (), ()), asleep=[1])
        self.told((3, 0, 0, 0), still, one=(((1, "a"), (2, "b"), (1, "c"), (1, "d")), (), (), ()),
                  other=(((2, "b"), (1, "a"), (1, "c")), (), (), ()), asleep=[1])

    def test_whichever_sleepers_they_are_about(self):
        self.told((2, 0, 1, 0), still, one=ONE, other=(((2, "q"),), (), (), ()), asleep=[2, 3])
        self.told((2, 0, 1, 0), still, one=ONE, other=(((3, "q"),), (), (), ()), asleep=[2, 3])
        self.told((4, 0, 1, 0), still, one=ONE, other=(((2, "q"),), (), (), ()), asleep=[2])
        self.told((0, 0, 1, 0), still, one=ONE, other=(((3, "q"),), (), (), ()), asleep=[2])

    def test_of_many(self):
        for one, other, asleep in random_pairs("still", 120):
            self.told(still_by_hand(one, other, asleep), still, one=one, other=other, asleep=asleep)

    def test_it_stays_on_every_way(self):
        chance = random.Random("stays")
        for standing in random_standings("stays", 60):
            asleep = random_asleep(chance, standing)
            ways = wander(chance, standing, asleep, 60)[1]
            many = still(ways[0], ways[-1], asleep=asleep)
            for way in ways:
                for dove, heap in enumerate(way):
                    self.assertEqual(heap[:many[dove]], standing[dove][:many[dove]])


class FirstMoved(Promises, unittest.TestCase):

    def test_none_where_nothing_can_not_move(self):
        self.told(None, first_moved, one=ONE, other=((),) * 4, asleep=())
        self.told(None, first_moved, one=((),), other=((),), asleep=[0])
        self.told(None, first_moved, one=ONE, other=ONE, asleep=[2, 3])
        self.told(None, first_moved, one=ONE, other=ONE, asleep=[0, 1, 2, 3])

    def test_a_sleepers_heap(self):
        one = (((1, "a"), (1, "b")), ())
        self.told((0, 0), first_moved, one=one, other=((), ()), asleep=[0])
        self.told((0, 1), first_moved, one=one, other=(((1, "a"),), ()), asleep=[0])
        self.told((0, 1), first_moved, one=one, other=(((1, "a"), (1, "x")), ()), asleep=[0])
        self.told((0, 0), first_moved, one=one, other=(((1, "b"), (1, "a")), ()), asleep=[0])
        self.told(None, first_moved, one=one, other=(((1, "a"), (1, "b"), (1, "c")), ()), asleep=[0])
        self.told(None, first_moved, one=one, other=((), ()), asleep=[1])

    def test_another_grudge_is_of_another_word_or_about_another(self):
        one = ((), ((0, "a"), (2, "b")), ())
        self.told((1, 1), first_moved, one=one, other=((), ((0, "a"), (2, "c")), ()), asleep=[1])
        self.told((1, 1), first_moved, one=one, other=((), ((0, "a"), (0, "b")), ()), asleep=[1])
        self.told((1, 0), first_moved, one=one, other=((), ((2, "a"), (2, "b")), ()), asleep=[1])

    def test_an_awake_doves(self):
        self.told((0, 1), first_moved, one=ONE, other=(((1, "a"), (2, "d")), (), ((3, "f"),), ()), asleep=[2, 3])
        self.told((0, 0), first_moved, one=ONE, other=(((3, "b"),), (), ((3, "f"),), ()), asleep=[2, 3])
        self.told(None, first_moved, one=ONE, other=(((1, "a"), (3, "b"), (1, "x")), (), ((3, "f"),), ()),
                  asleep=[2, 3])
        self.told((0, 3), first_moved, one=ONE, asleep=[2, 3],
                  other=(((1, "a"), (3, "b"), (1, "c"), (3, "d")), (), ((3, "f"),), ()))

    def test_the_first_dove_goes(self):
        other = (((1, "a"), (2, "b")), (), (), ())
        self.told((0, 1), first_moved, one=ONE, other=other, asleep=[2, 3])
        self.told((2, 0), first_moved, one=ONE, other=(((1, "a"),), (), (), ()), asleep=[2, 3])

    def test_whether_lines_are_alike_or_not(self):
        self.told((1, 0), first_moved, one=((), ((0, "a"),)), other=(((1, "a"),), ()), asleep=[1])
        self.told((1, 0), first_moved, one=((), ((0, "a"),)), other=(((1, "b"),), ()), asleep=[1])

    def test_of_many(self):
        told = []
        for one, other, asleep in random_pairs("first_moved", 200):
            bars = heaps_barring(one, other, asleep)
            told.append(bars[0][1:] if bars else None)
            self.told(told[-1], first_moved, one=one, other=other, asleep=asleep)
        self.assertTrue(50 < told.count(None) < 180)

    def test_none_on_every_way(self):
        chance = random.Random("every way")
        for standing in random_standings("every way", 60):
            asleep = random_asleep(chance, standing)
            ways = wander(chance, standing, asleep, 60)[1]
            self.told(None, first_moved, one=standing, other=ways[-1], asleep=asleep)

    def test_both_refused_of_unlike_many_doves(self):
        for function in (still, first_moved):
            for asleep in ((), [0]):
                self.refused(NotSame, {}, function, one=((),), other=((), ()), asleep=asleep)
                self.refused(NotSame, {}, function, one=((), ()), other=((),), asleep=asleep)
                self.refused(NotSame, {}, function, one=ONE, other=ONE + ((),), asleep=asleep)
                self.refused(NotSame, {}, function, one=ONE[:3], other=ONE, asleep=asleep)


if __name__ == "__main__":
    unittest.main()
