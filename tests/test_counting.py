"""how_many, nth and number_of."""

import itertools
import math
import random
import unittest

from grudgecote.counting import how_many, nth, number_of
from grudgecote.errors import Barred, NoStanding, NotSame, TooMany
from grudgecote.standings import is_standing

from tests.helper import (
    HUGE, Promises, all_led, line_by_hand, lines_barring, random_alike, random_standing, shuffled, tinkered, wander)

# Small ones, from which all standings that pecks lead to are found one by one.
COTES = [
    ((),),
    ((), (), ()),
    (((1, "a"),), ()),
    (((1, "a"), (1, "b")), ((0, "a"), (0, "a"))),
    (((1, "a"), (1, "a")), (), ()),
    (((1, "a"), (2, "b")), ((2, "c"),), ()),
    (((2, "a"), (1, "a"), (2, "b")), ((0, "c"),), ((1, "d"),)),
    (((3, "a"),), ((2, "b"), (3, "c")), (), ((2, "d"),)),
    (((1, "a"),), (), ((3, "b"), (3, "c")), ((2, "d"),), ()),
    ((), ((2, "a"), (3, "b"), (4, "c")), (), (), ()),
]


def rank(standing):
    """What they rise by: the cuts, then the doves that their grudges are about."""
    abouts = [[about for about, _ in heap] for heap in standing]
    pairs = itertools.combinations(range(len(standing)), 2)
    return [abouts[one].count(other) for one, other in pairs], abouts


def many_by_hand(standing):
    """Of all cuts the products of how many ways each heap can be shuffled."""
    pairs = list(itertools.combinations(range(len(standing)), 2))
    lengths = [len(line_by_hand(standing, one, other)) for one, other in pairs]
    many = 0
    for cuts in itertools.product(*[range(length + 1) for length in lengths]):
        shares = [[] for _ in standing]
        for (one, other), length, cut in zip(pairs, lengths, cuts):
            shares[one].append(cut)
            shares[other].append(length - cut)
        ways = 1
        for share in shares:
            ways *= math.factorial(sum(share))
            for part in share:
                ways //= math.factorial(part)
        many += ways
    return many


class Counting(Promises, unittest.TestCase):

    def counted(self, standing):
        """All of them, by their numbers, checked against those found one by one."""
        rising = sorted(all_led(standing), key=rank)
        self.told(len(rising), how_many, standing=standing)
        for number, other in enumerate(rising):
            self.same(nth(standing, number), other)
            self.same(number_of(standing, other), number)
        for number in (len(rising), len(rising) + 1, HUGE, -1, -2, -len(rising), -HUGE):
            self.refused(NoStanding, {"number": number}, nth, standing=standing, number=number)
        return rising

    def test_all_of_small_ones(self):
        for cote in COTES:
            with self.subTest(cote):
                rising = self.counted(cote)
                for number in {0, len(rising) // 2, len(rising) - 1}:
                    self.told(rising[number], nth, standing=cote, number=number)
                    self.told(number, number_of, standing=cote, other=rising[number])

    def test_all_of_random_small_ones(self):
        chance = random.Random("counting")
        for _ in range(40):
            self.counted(random_alike(chance, chance.randint(2, 5), chance.randint(1, 4)))
        for grudges in (5, 6):
            self.counted(random_alike(chance, 3, grudges))

    def test_as_cuts_rise_pair_by_pair(self):
        cote = (((1, "a"), (2, "b")), ((2, "c"),), ())
        wanted = [
            ((), ((0, "a"),), ((0, "b"), (1, "c"))),
            ((), ((0, "a"),), ((1, "c"), (0, "b"))),
            ((), ((0, "a"), (2, "c")), ((0, "b"),)),
            ((), ((2, "c"), (0, "a")), ((0, "b"),)),
            (((2, "b"),), ((0, "a"),), ((1, "c"),)),
            (((2, "b"),), ((0, "a"), (2, "c")), ()),
            (((2, "b"),), ((2, "c"), (0, "a")), ()),
            (((1, "a"),), (), ((0, "b"), (1, "c"))),
            (((1, "a"),), (), ((1, "c"), (0, "b"))),
            (((1, "a"),), ((2, "c"),), ((0, "b"),)),
            (((1, "a"), (2, "b")), (), ((1, "c"),)),
            (((2, "b"), (1, "a")), (), ((1, "c"),)),
            (((1, "a"), (2, "b")), ((2, "c"),), ()),
            (((2, "b"), (1, "a")), ((2, "c"),), ()),
        ]
        for here in (cote, wanted[0], wanted[9]):
            self.told(14, how_many, standing=here)
            for number, other in enumerate(wanted):
                self.told(other, nth, standing=here, number=number)
                self.told(number, number_of, standing=here, other=other)

    def test_heap_by_heap_where_several_may_be_shuffled(self):
        # All cuts are 1, and each of the three heaps has two orders; the last one's changes first.
        cote = (((1, "a"), (2, "b")), ((0, "d"), (2, "c")), ((0, "e"), (1, "f")))
        first = number_of(cote, cote)
        orders = itertools.product(([1, 2], [2, 1]), ([0, 2], [2, 0]), ([0, 1], [1, 0]))
        for number, order in enumerate(orders, start=first):
            self.assertEqual(rank(nth(cote, number)), ([1, 1, 1], list(order)))
        self.assertEqual(rank(nth(cote, first - 1))[0], [1, 1, 0])
        self.assertEqual(rank(nth(cote, first + 8))[0], [1, 1, 2])
        self.counted(cote)

    def test_of_two_doves(self):
        for many in range(11):
            heap = tuple((1, "abcdefghij"[place]) for place in range(many))
            self.told(many + 1, how_many, standing=(heap, ()))
            for number in range(many + 1):
                other = (heap[:number], tuple((0, word) for _, word in heap[number:][::-1]))
                self.told(other, nth, standing=(heap, ()), number=number)
                self.told(number, number_of, standing=(heap, ()), other=other)

    def test_of_one_dove_and_of_bare_ones(self):
        for doves in range(1, 9):
            bare = ((),) * doves
            self.told(1, how_many, standing=bare)
            self.told(bare, nth, standing=bare, number=0)
            self.told(0, number_of, standing=bare, other=bare)
            self.refused(NoStanding, {"number": 1}, nth, standing=bare, number=1)
            self.refused(NoStanding, {"number": -1}, nth, standing=bare, number=-1)

    def test_of_eight_doves_and_ten_grudges(self):
        chance = random.Random("eight doves")
        for _ in range(12):
            standing = random_alike(chance, 8, 10)
            many = how_many(standing)
            self.same(many, many_by_hand(standing))
            numbers = sorted({0, many - 1, *[chance.randrange(many) for _ in range(5)]})
            others = [nth(standing, number) for number in numbers]
            for number, other in zip(numbers, others):
                self.assertIs(is_standing(other), True)
                self.assertEqual(lines_barring(standing, other), [])
                self.same(number_of(standing, other), number)
            self.assertEqual(others, sorted(others, key=rank))
            other = shuffled(chance, wander(chance, standing, [], 50)[1][-1])
            self.told(number_of(standing, other), number_of, standing=standing, other=other)
            self.told(other, nth, standing=standing, number=number_of(standing, other))
            self.refused(NoStanding, {"number": many}, nth, standing=standing, number=many)

    def test_ten_grudges_in_the_most_ways(self):
        pairs = list(itertools.combinations(range(5), 2))
        heaps = [tuple((other, "a") for one, other in pairs if one == dove) for dove in range(5)]
        standing = tuple(heaps)
        many = how_many(standing)
        self.same(many, many_by_hand(standing))
        self.same(number_of(standing, nth(standing, many - 1)), many - 1)
        self.same(rank(nth(standing, many - 1))[0], [1] * 10)
        self.same(rank(nth(standing, 0))[0], [0] * 10)

    def test_neighbours_rise(self):
        chance = random.Random("neighbours")
        for _ in range(15):
            standing = random_alike(chance, chance.randint(3, 8), chance.randint(5, 10))
            number = chance.randrange(how_many(standing))
            here = nth(standing, number)
            if number:
                self.assertLess(rank(nth(standing, number - 1)), rank(here))
            if number < how_many(standing) - 1:
                self.assertLess(rank(here), rank(nth(standing, number + 1)))

    def test_too_many(self):
        chance = random.Random("too many")
        for grudges in (11, 12, 24):
            standing = random_standing(chance, 5, grudges)
            self.refused(TooMany, {"grudges": grudges}, how_many, standing=standing)
            for number in (0, 1, -1, HUGE, -HUGE):
                self.refused(TooMany, {"grudges": grudges}, nth, standing=standing, number=number)
            self.refused(TooMany, {"grudges": grudges}, number_of, standing=standing, other=standing)
            # Ahead of a line that bars, and behind unlike many doves.
            self.refused(TooMany, {"grudges": grudges}, number_of, standing=standing, other=((),) * 5)
            self.refused(NotSame, {}, number_of, standing=standing, other=((),) * 4)
            self.refused(NotSame, {}, number_of, standing=standing, other=standing + ((),))
        ten = random_standing(chance, 5, 10)
        self.same(how_many(ten), many_by_hand(ten))

    def test_too_many_are_counted_in_the_standing_alone(self):
        self.refused(Barred, {"what": ("line", 0, 1, 0)}, number_of, standing=((), ()), other=(((1, "a"),) * 11, ()))

    def test_number_of_is_barred_by_a_line(self):
        cote = (((1, "a"), (2, "b")), ((2, "c"),), ())
        self.refused(Barred, {"what": ("line", 0, 1, 0)}, number_of, standing=cote, other=((), (), ()))
        self.refused(Barred, {"what": ("line", 0, 1, 1)}, number_of, standing=cote,
                     other=(((1, "a"), (1, "b")), ((2, "c"),), ()))
        self.refused(Barred, {"what": ("line", 0, 2, 0)}, number_of, standing=cote,
                     other=(((1, "a"), (2, "x")), ((2, "y"),), ()))
        self.refused(Barred, {"what": ("line", 1, 2, 0)}, number_of, standing=cote,
                     other=(((1, "a"), (2, "b")), (), ((1, "x"),)))
        chance = random.Random("barred by a line")
        for _ in range(40):
            standing = random_alike(chance, chance.randint(2, 6), chance.randint(1, 10))
            other = tinkered(chance, wander(chance, standing, [], 20)[1][-1])
            bars = lines_barring(standing, other)
            if bars:
                self.refused(Barred, {"what": bars[0]}, number_of, standing=standing, other=other)
            else:
                self.told(other, nth, standing=standing, number=number_of(standing, other))

    def test_number_of_is_refused_of_unlike_many_doves(self):
        for one, other in ((((),), ((), ())), (((), ()), ((),)), (COTES[5], COTES[5] + ((),))):
            self.refused(NotSame, {}, number_of, standing=one, other=other)


if __name__ == "__main__":
    unittest.main()
