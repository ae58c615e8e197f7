"""uppermost, held, grudges_in, called and beside."""

import itertools
import random
import unittest

from grudgecote.errors import NoDove
from grudgecote.standings import beside, called, grudges_in, held, is_standing, uppermost

from tests.helper import Promises, as_tuples, random_standings

COTE = (((1, "ab"), (2, "c"), (1, "d"), (1, "ab")), (), ((0, "ab"), (1, "z")))
ABSENT = (3, 4, 99, 10 ** 5000, -1, -2, -3, -4, -(10 ** 5000))


class Uppermost(Promises, unittest.TestCase):

    def test_of_full_and_bare_heaps(self):
        self.told((1, "ab"), uppermost, standing=COTE, dove=0)
        self.told(None, uppermost, standing=COTE, dove=1)
        self.told((1, "z"), uppermost, standing=COTE, dove=2)
        self.told(None, uppermost, standing=((),), dove=0)

    def test_of_many(self):
        for standing in random_standings("uppermost", 50):
            for dove, heap in enumerate(standing):
                self.told(heap[-1] if heap else None, uppermost, standing=standing, dove=dove)

    def test_refused_of_doves_that_are_not_there(self):
        for dove in ABSENT:
            self.refused(NoDove, {"dove": dove}, uppermost, standing=COTE, dove=dove)
        self.refused(NoDove, {"dove": 1}, uppermost, standing=((),), dove=1)
        self.refused(NoDove, {"dove": -1}, uppermost, standing=((),), dove=-1)


class Held(Promises, unittest.TestCase):

    def test_from_below_to_above(self):
        self.told(("ab", "d", "ab"), held, standing=COTE, dove=0, about=1)
        self.told(("c",), held, standing=COTE, dove=0, about=2)
        self.told(("ab",), held, standing=COTE, dove=2, about=0)
        self.told(("z",), held, standing=COTE, dove=2, about=1)

    def test_none_of_a_bare_heap_and_about_itself(self):
        self.told((), held, standing=COTE, dove=1, about=0)
        self.told((), held, standing=COTE, dove=1, about=2)
        for dove in range(3):
            self.told((), held, standing=COTE, dove=dove, about=dove)
        self.told((), held, standing=((),), dove=0, about=0)

    def test_of_many(self):
        for standing in random_standings("held", 20):
            for dove, about in itertools.product(range(len(standing)), repeat=2):
                words = []
                for grudge in standing[dove]:
                    if grudge[0] == about:
                        words.append(grudge[1])
                self.told(tuple(words), held, standing=standing, dove=dove, about=about)

    def test_refused_of_the_first_dove_that_is_not_there(self):
        for absent in ABSENT:
            for there in range(3):
                self.refused(NoDove, {"dove": absent}, held, standing=COTE, dove=absent, about=there)
                self.refused(NoDove, {"dove": absent}, held, standing=COTE, dove=there, about=absent)
            for other in ABSENT:
                self.refused(NoDove, {"dove": absent}, held, standing=COTE, dove=absent, about=other)


class GrudgesIn(Promises, unittest.TestCase):

    def test_all_of_them(self):
        self.told(6, grudges_in, standing=COTE)
        self.told(0, grudges_in, standing=((),))
        self.told(0, grudges_in, standing=((), (), ()))
        self.told(2, grudges_in, standing=((), ((0, "a"), (0, "a"))))

    def test_of_many(self):
        for standing in random_standings("grudges_in", 50):
            self.told(len([1 for heap in standing for _ in heap]), grudges_in, standing=standing)


class Called(Promises, unittest.TestCase):

    def test_dove_by_dove(self):
        self.told((((1, "ab"), (2, "z")), ((2, "ab"), (0, "c"), (2, "d"), (2, "ab")), ()),
                  called, standing=COTE, order=[2, 0, 1])
        self.told(((), ((2, "ab"), (0, "z")), ((0, "ab"), (1, "c"), (0, "d"), (0, "ab"))),
                  called, standing=COTE, order=[1, 2, 0])
        self.told(((),), called, standing=((),), order=[0])

    def test_in_its_own_order_it_is_the_same(self):
        self.told(COTE, called, standing=COTE, order=[0, 1, 2])

    def test_dove_k_is_what_order_k_was(self):
        for standing in random_standings("called", 20):
            order = list(range(len(standing)))
            random.Random(len(standing)).shuffle(order)
            new = called(standing, order)
            self.assertIs(is_standing(new), True)
            for k, old in enumerate(order):
                self.same([(order[about], word) for about, word in new[k]], list(standing[old]))

    def test_back_again_is_the_standing_itself(self):
        for order in itertools.permutations(range(3)):
            back = [order.index(dove) for dove in range(3)]
            self.told(COTE, called, standing=called(COTE, list(order)), order=back)
        for standing in random_standings("back", 50):
            order = list(range(len(standing)))
            random.Random(repr(standing)).shuffle(order)
            back = [order.index(dove) for dove in range(len(order))]
            self.told(standing, called, standing=called(standing, order), order=back)


class Beside(Promises, unittest.TestCase):

    def test_the_second_ones_doves_are_numbered_on(self):
        self.told((((1, "a"),), (), (), ((2, "b"), (2, "c"))),
                  beside, one=(((1, "a"),), ()), other=((), ((0, "b"), (0, "c"))))
        self.told(((), ((2, "b"),), ((1, "a"),)), beside, one=((),), other=(((1, "b"),), ((0, "a"),)))
        self.told((((1, "b"),), ((0, "a"),), ()), beside, one=(((1, "b"),), ((0, "a"),)), other=((),))
        self.told(((), ()), beside, one=((),), other=((),))

    def test_with_itself(self):
        self.same(beside(COTE, COTE), COTE + (((4, "ab"), (5, "c"), (4, "d"), (4, "ab")), (),
                                              ((3, "ab"), (4, "z"))))

    def test_of_many(self):
        standings = random_standings("beside", 40)
        for one, other in zip(standings, standings[1:]):
            both = beside(one, other)
            self.assertIs(is_standing(both), True)
            self.same(both[:len(one)], one)
            behind = [[(about - len(one), word) for about, word in heap] for heap in both[len(one):]]
            self.same(as_tuples(behind), other)
            self.told(both, beside, one=one, other=other)


if __name__ == "__main__":
    unittest.main()
