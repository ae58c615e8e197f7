"""pecked, gone and backwards."""

import random
import unittest

from grudgecote.errors import Asleep, Bare, Kept, NoDove
from grudgecote.pecks import backwards, gone, pecked

from tests.helper import HUGE, Promises, after_peck, random_asleep, random_standings, wander

COTE = (((1, "ab"), (2, "c"), (1, "d")), (), ((0, "e"), (1, "f")))
ABSENT = (3, 4, HUGE, -1, -2, -3, -4, -HUGE)


class Pecked(Promises, unittest.TestCase):

    def test_the_uppermost_goes_over_and_is_about_who_pecked(self):
        behind = (((1, "ab"), (2, "c")), ((0, "d"),), ((0, "e"), (1, "f")))
        self.told(behind, pecked, standing=COTE, dove=0, asleep=())
        behind = (((1, "ab"), (2, "c"), (1, "d")), ((2, "f"),), ((0, "e"),))
        self.told(behind, pecked, standing=COTE, dove=2, asleep=())

    def test_it_lies_uppermost_there(self):
        standing = (((1, "a"),), ((0, "b"), (2, "c")), ((1, "d"),))
        self.told(((), ((0, "b"), (2, "c"), (0, "a")), ((1, "d"),)), pecked, standing=standing, dove=0, asleep=())
        self.told((((1, "a"),), ((0, "b"), (2, "c"), (2, "d")), ()), pecked, standing=standing, dove=2, asleep=())

    def test_who_got_it_may_peck_it_back(self):
        for dove, taker in ((0, 1), (2, 1)):
            self.told(COTE, pecked, standing=pecked(COTE, dove), dove=taker, asleep=())

    def test_a_sleeper_gets_something_too(self):
        behind = (((1, "ab"), (2, "c")), ((0, "d"),), ((0, "e"), (1, "f")))
        for asleep in ([1], [1, 2], [2]):
            self.told(behind, pecked, standing=COTE, dove=0, asleep=asleep)

    def test_of_many(self):
        chance = random.Random("pecked")
        for standing in random_standings("pecked", 40):
            asleep = random_asleep(chance, standing)
            for dove, heap in enumerate(standing):
                if dove in asleep:
                    self.refused(Asleep, {"dove": dove}, pecked, standing=standing, dove=dove, asleep=asleep)
                elif not heap:
                    self.refused(Bare, {"dove": dove}, pecked, standing=standing, dove=dove, asleep=asleep)
                else:
                    wanted = after_peck(standing, dove)[0]
                    self.told(wanted, pecked, standing=standing, dove=dove, asleep=asleep)

    def test_refused_of_doves_that_are_not_there(self):
        for dove in ABSENT:
            for asleep in ((), [0], [0, 1, 2]):
                self.refused(NoDove, {"dove": dove}, pecked, standing=COTE, dove=dove, asleep=asleep)
        self.refused(NoDove, {"dove": -1}, pecked, standing=((),), dove=-1, asleep=[0])

    def test_one_that_is_not_there_ahead_of_one_that_sleeps(self):
        # Such a list of sleepers is beyond what is promised but for this order.
        self.refused(NoDove, {"dove": 3}, pecked, standing=COTE, dove=3, asleep=[2, 3])

    def test_refused_of_sleepers_bare_ones_too(self):
        self.refused(Asleep, {"dove": 0}, pecked, standing=COTE, dove=0, asleep=[0])
        self.refused(Asleep, {"dove": 2}, pecked, standing=COTE, dove=2, asleep=[0, 2])
        self.refused(Asleep, {"dove": 1}, pecked, standing=COTE, dove=1, asleep=[1])
        self.refused(Asleep, {"dove": 0}, pecked, standing=((),), dove=0, asleep=[0])

    def test_refused_of_a_bare_heap(self):
        for asleep in ((), [0], [0, 2]):
            self.refused(Bare, {"dove": 1}, pecked, standing=COTE, dove=1, asleep=asleep)
        self.refused(Bare, {"dove": 0}, pecked, standing=((),), dove=0, asleep=())


class Gone(Promises, unittest.TestCase):

    def test_one_behind_the_other(self):
        self.told((((1, "ab"),), ((0, "d"),), ((0, "e"), (1, "f"), (0, "c"))),
                  gone, standing=COTE, row=[0, 0], asleep=())
        self.told((((1, "ab"), (1, "d")), (), ((0, "e"), (1, "f"), (0, "c"))),
                  gone, standing=COTE, row=[0, 0, 1], asleep=())
        self.told((((1, "ab"), (2, "c")), ((0, "d"), (2, "f")), ((0, "e"),)),
                  gone, standing=COTE, row=[0, 2], asleep=())
        self.told((((1, "ab"), (2, "c")), ((2, "f"), (0, "d")), ((0, "e"),)),
                  gone, standing=COTE, row=[2, 0], asleep=[1])

    def test_a_bare_row_is_the_standing_itself(self):
        for standing in random_standings("bare rows", 20):
            self.told(standing, gone, standing=standing, row=[], asleep=())
        self.told(COTE, gone, standing=COTE, row=[], asleep=[0, 1, 2])
        self.told(((),), gone, standing=((),), row=[], asleep=())

    def test_of_many(self):
        chance = random.Random("gone")
        for standing in random_standings("gone", 40):
            asleep = random_asleep(chance, standing)
            row, ways = wander(chance, standing, asleep, chance.choice([3, 20, 200]))
            self.told(ways[-1], gone, standing=standing, row=row, asleep=asleep)

    def test_just_what_peck_by_peck_is_told(self):
        chance = random.Random("peck by peck")
        for standing in random_standings("peck by peck", 10):
            asleep = random_asleep(chance, standing)
            here = standing
            row, ways = wander(chance, standing, asleep, 15)
            for place, dove in enumerate(row):
                here = pecked(here, dove, asleep=asleep)
                self.same(here, ways[place + 1])
                self.same(gone(standing, row[:place + 1], asleep=asleep), here)

    def test_refused_as_the_first_peck_that_is(self):
        self.refused(Bare, {"dove": 1}, gone, standing=COTE, row=[1, 3], asleep=())
        self.refused(NoDove, {"dove": 3}, gone, standing=COTE, row=[3, 1], asleep=())
        self.refused(Asleep, {"dove": 1}, gone, standing=COTE, row=[1, 3], asleep=[1])
        self.refused(NoDove, {"dove": -1}, gone, standing=COTE, row=[0, 1, -1, 1, 0], asleep=())
        self.refused(NoDove, {"dove": HUGE}, gone, standing=COTE, row=[0, HUGE, 1], asleep=[1])
        self.refused(Asleep, {"dove": 1}, gone, standing=COTE, row=[0, 1, -1], asleep=[1])
        self.refused(Bare, {"dove": 2}, gone, standing=COTE, row=[2, 2, 2, 1], asleep=[1])

    def test_heaps_grown_bare_are_refused_and_not_those_that_got_something(self):
        self.told(COTE, gone, standing=COTE, row=[0, 1], asleep=())
        self.refused(Bare, {"dove": 1}, gone, standing=COTE, row=[0, 1, 1], asleep=())
        self.refused(Bare, {"dove": 0}, gone, standing=COTE, row=[0, 0, 0, 0], asleep=())


class Backwards(Promises, unittest.TestCase):

    def test_each_undone_by_the_one_who_got_it(self):
        self.told([], backwards, standing=COTE, row=[], asleep=())
        self.told([1], backwards, standing=COTE, row=[0], asleep=())
        self.told([2, 1], backwards, standing=COTE, row=[0, 0], asleep=())
        self.told([0, 2, 1], backwards, standing=COTE, row=[0, 0, 2], asleep=())
        self.told([], backwards, standing=COTE, row=[], asleep=[0, 1, 2])

    def test_of_many(self):
        chance = random.Random("backwards")
        for standing in random_standings("backwards", 40):
            row, ways = wander(chance, standing, [], chance.choice([3, 20, 200]))
            takers = [after_peck(way, dove)[1] for way, dove in zip(ways, row)]
            self.told(takers[::-1], backwards, standing=standing, row=row, asleep=())
            self.same(gone(ways[-1], backwards(standing, row)), standing)

    def test_of_many_where_some_sleep(self):
        chance = random.Random("backwards asleep")
        kept = 0
        for standing in random_standings("backwards asleep", 60):
            asleep = random_asleep(chance, standing)
            row, ways = wander(chance, standing, asleep, chance.choice([1, 2, 4, 8, 30]))
            takers = [after_peck(way, dove)[1] for way, dove in zip(ways, row)]
            places = [place for place, taker in enumerate(takers) if taker in asleep]
            if places:
                kept += 1
                self.refused(Kept, {"place": places[0]}, backwards, standing=standing, row=row, asleep=asleep)
            else:
                self.told(takers[::-1], backwards, standing=standing, row=row, asleep=asleep)
                self.same(gone(ways[-1], takers[::-1], asleep=asleep), standing)
        self.assertTrue(10 < kept < 50)

    def test_kept_is_the_first_place_at_which_a_sleeper_got_something(self):
        self.refused(Kept, {"place": 0}, backwards, standing=COTE, row=[0], asleep=[1])
        self.refused(Kept, {"place": 1}, backwards, standing=COTE, row=[0, 0], asleep=[2])
        self.refused(Kept, {"place": 0}, backwards, standing=COTE, row=[0, 0, 0], asleep=[1, 2])
        self.refused(Kept, {"place": 3}, backwards, standing=COTE, row=[0, 1, 0, 0], asleep=[2])
        self.told([1], backwards, standing=COTE, row=[0], asleep=[2])

    def test_refused_as_gone_is_of_the_whole_row_ahead_of_kept(self):
        self.refused(Bare, {"dove": 0}, backwards, standing=COTE, row=[0, 0, 0, 0], asleep=[1])
        self.refused(Asleep, {"dove": 1}, backwards, standing=COTE, row=[0, 1], asleep=[1])
        self.refused(NoDove, {"dove": 3}, backwards, standing=COTE, row=[0, 3], asleep=[1])
        self.refused(NoDove, {"dove": -1}, backwards, standing=COTE, row=[0, -1, 1], asleep=[1])
        self.refused(Bare, {"dove": 1}, backwards, standing=COTE, row=[1, 3], asleep=())
        self.refused(NoDove, {"dove": HUGE}, backwards, standing=COTE, row=[HUGE], asleep=())


if __name__ == "__main__":
    unittest.main()
