"""line, cut, lines_of and first_unlike."""

import itertools
import random
import unittest

from grudgecote.errors import NoDove, NotSame
from grudgecote.lines import cut, first_unlike, line, lines_of
from grudgecote.standings import is_standing

from tests.helper import (
    HUGE, Promises, after_peck, line_by_hand, lines_barring, random_pairs, random_standings, wander)

COTE = (((1, "a"), (2, "b"), (1, "c")), ((0, "d"), (0, "e"), (2, "f")), ((0, "g"),), ())
ABSENT = (4, 5, HUGE, -1, -3, -4, -5, -HUGE)


class Line(Promises, unittest.TestCase):

    def test_ones_from_below_then_the_others_from_above(self):
        self.told(("a", "c", "e", "d"), line, standing=COTE, one=0, other=1)
        self.told(("b", "g"), line, standing=COTE, one=0, other=2)
        self.told(("f",), line, standing=COTE, one=1, other=2)

    def test_the_other_way_about_it_is_turned_round(self):
        self.told(("d", "e", "c", "a"), line, standing=COTE, one=1, other=0)
        self.told(("g", "b"), line, standing=COTE, one=2, other=0)
        self.told(("f",), line, standing=COTE, one=2, other=1)

    def test_bare_ones(self):
        for dove in range(3):
            self.told((), line, standing=COTE, one=dove, other=3)
            self.told((), line, standing=COTE, one=3, other=dove)

    def test_of_many(self):
        for standing in random_standings("line", 30):
            for one, other in itertools.permutations(range(len(standing)), 2):
                wanted = line_by_hand(standing, one, other)
                self.told(wanted, line, standing=standing, one=one, other=other)
                self.same(line(standing, other, one), wanted[::-1])

    def test_no_peck_changes_it(self):
        chance = random.Random("no peck")
        for standing in random_standings("no peck", 20):
            for way in wander(chance, standing, [], 60)[1]:
                self.same(lines_of(way), lines_of(standing))

    def test_refused_of_the_first_dove_that_is_not_there(self):
        for function in (line, cut):
            for absent in ABSENT:
                for there in range(4):
                    self.refused(NoDove, {"dove": absent}, function, standing=COTE, one=absent, other=there)
                    self.refused(NoDove, {"dove": absent}, function, standing=COTE, one=there, other=absent)
                for other in ABSENT:
                    if absent != other:
                        self.refused(NoDove, {"dove": absent}, function, standing=COTE, one=absent, other=other)


class Cut(Promises, unittest.TestCase):

    def test_how_many_lie_with_one(self):
        for one, other, wanted in ((0, 1, 2), (1, 0, 2), (0, 2, 1), (2, 0, 1), (1, 2, 1), (2, 1, 0), (0, 3, 0)):
            self.told(wanted, cut, standing=COTE, one=one, other=other)

    def test_a_peck_of_either_moves_it_by_one(self):
        chance = random.Random("cut")
        for standing in random_standings("cut", 20):
            row, ways = wander(chance, standing, [], 20)
            for here, dove, there in zip(ways, row, ways[1:]):
                taker = after_peck(here, dove)[1]
                self.same(cut(there, dove, taker), cut(here, dove, taker) - 1)
                self.same(cut(there, taker, dove), cut(here, taker, dove) + 1)

    def test_of_many(self):
        for standing in random_standings("cut of many", 20):
            for one, other in itertools.permutations(range(len(standing)), 2):
                wanted = [about for about, _ in standing[one]].count(other)
                self.told(wanted, cut, standing=standing, one=one, other=other)


class LinesOf(Promises, unittest.TestCase):

    def test_those_that_are_not_bare_rising(self):
        self.told([(0, 1, ("a", "c", "e", "d")), (0, 2, ("b", "g")), (1, 2, ("f",))], lines_of, standing=COTE)
        self.told([], lines_of, standing=((),))
        self.told([], lines_of, standing=((), (), ()))
        self.told([(0, 1, ("a",))], lines_of, standing=((), ((0, "a"),)))
        self.told([(0, 2, ("a",)), (1, 2, ("b", "c"))],
                  lines_of, standing=((), ((2, "b"),), ((0, "a"), (1, "c"))))

    def test_of_many(self):
        for standing in random_standings("lines_of", 50):
            wanted = []
            for one in range(len(standing)):
                for other in range(one + 1, len(standing)):
                    if line_by_hand(standing, one, other):
                        wanted.append((one, other, line_by_hand(standing, one, other)))
            self.told(wanted, lines_of, standing=standing)


class FirstUnlike(Promises, unittest.TestCase):

    def test_none_of_like_lines(self):
        self.told(None, first_unlike, one=COTE, other=COTE)
        self.told(None, first_unlike, one=((),), other=((),))
        self.told(None, first_unlike, one=(((1, "a"), (2, "b")), (), ()), other=((), ((0, "a"),), ((0, "b"),)))
        chance = random.Random("like lines")
        for standing in random_standings("like lines", 20):
            self.told(None, first_unlike, one=standing, other=wander(chance, standing, [], 50)[1][-1])

    def test_the_first_place(self):
        one = (((1, "a"), (1, "b"), (1, "c")), ())
        self.told((0, 1, 0), first_unlike, one=one, other=(((1, "x"), (1, "b"), (1, "c")), ()))
        self.told((0, 1, 1), first_unlike, one=one, other=(((1, "a"), (1, "x"), (1, "y")), ()))
        self.told((0, 1, 2), first_unlike, one=one, other=(((1, "a"), (1, "b")), ((0, "x"),)))
        self.told((0, 1, 1), first_unlike, one=one, other=(((1, "a"),), ((0, "b"), (0, "c"))))

    def test_a_line_that_is_a_beginning_of_the_other(self):
        one = (((1, "a"), (1, "b")), ((0, "c"),))
        self.told((0, 1, 2), first_unlike, one=one, other=(((1, "a"),), ((0, "b"),)))
        self.told((0, 1, 2), first_unlike, one=(((1, "a"),), ((0, "b"),)), other=one)
        self.told((0, 1, 0), first_unlike, one=one, other=((), ()))
        self.told((0, 1, 0), first_unlike, one=((), ()), other=one)

    def test_the_first_pair_as_pairs_rise(self):
        bare = ((), (), (), ())
        pairs = list(itertools.combinations(range(4), 2))
        for low, high in pairs:
            for later_low, later_high in pairs[pairs.index((low, high)):]:
                heaps = [[], [], [], []]
                heaps[later_high].append((later_low, "b"))
                heaps[high].append((low, "a"))
                self.told((low, high, 0), first_unlike, one=bare, other=heaps)
                self.told((low, high, 0), first_unlike, one=heaps, other=bare)

    def test_an_earlier_pair_unlike_at_a_later_place_goes(self):
        one = (((1, "a"), (1, "b"), (2, "c")), (), ())
        self.told((0, 1, 1), first_unlike, one=one, other=(((1, "a"), (1, "x"), (2, "y")), (), ()))

    def test_of_many(self):
        told = []
        for one, other, _ in random_pairs("first_unlike", 150):
            self.assertIs(is_standing(one) and is_standing(other), True)
            bars = lines_barring(one, other)
            wanted = bars[0][1:] if bars else None
            told.append(wanted)
            self.told(wanted, first_unlike, one=one, other=other)
        self.assertTrue(30 < told.count(None) < 120)

    def test_refused_of_unlike_many_doves(self):
        self.refused(NotSame, {}, first_unlike, one=((),), other=((), ()))
        self.refused(NotSame, {}, first_unlike, one=((), ()), other=((),))
        self.refused(NotSame, {}, first_unlike, one=COTE, other=COTE + ((),))
        self.refused(NotSame, {}, first_unlike, one=COTE + ((),), other=((),) * 4)


if __name__ == "__main__":
    unittest.main()
