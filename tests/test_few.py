"""at_least and least_row."""

import copy
import itertools
import random
import unittest

from grudgecote.between import between
from grudgecote.errors import Barred, NotSame, TooMany
from grudgecote.few import at_least, least_row

from tests.helper import (
    Promises, after_peck, all_led, gone_by_hand, lines_barring, may_peck, names_in, random_alike, random_asleep,
    random_standing, shuffled, tinkered, wander)

# Small ones, from which all standings that pecks lead to are found one by one.
COTES = [
    ((),),
    ((), ()),
    (((1, "a"), (1, "a"), (1, "b")), ()),
    (((1, "a"), (2, "b")), ((2, "c"),), ()),
    (((1, "a"), (1, "a")), ((2, "a"),), ((0, "a"),)),
    (((2, "a"), (3, "b")), ((3, "c"), (2, "d")), (), ()),
]


def at_least_by_hand(one, other):
    """Of each grudge by itself: where it lies in one and in other, and whether it may stay."""
    here, there = names_in(one), names_in(other)
    where = {name: dove for (dove, _), name in there.items()}
    many = 0
    for (dove, place), name in here.items():
        beneath = [here[dove, low] == there.get((dove, low)) for low in range(place + 1)]
        if not all(beneath):
            many += 2 if where[name] == dove else 1
    return many


def ways_from(standing, asleep):
    """How many pecks lead at least from here to each standing."""
    far = {standing: 0}
    front = [standing]
    while front:
        behind = []
        for here in front:
            for dove in may_peck(here, asleep):
                there = after_peck(here, dove)[0]
                if there not in far:
                    far[there] = far[here] + 1
                    behind.append(there)
        front = behind
    return far


def least_by_hand(one, other, asleep, far):
    """Peck by peck the least dove that leads one nearer; far tells of each standing how far others are."""
    if other not in far[one]:
        return None
    row = []
    while one != other:
        for dove in may_peck(one, asleep):
            there = after_peck(one, dove)[0]
            if far[there].get(other) == far[one][other] - 1:
                row.append(dove)
                one = there
                break
    return row


class AtLeast(Promises, unittest.TestCase):

    def test_a_standing_and_itself(self):
        chance = random.Random("itself")
        for _ in range(20):
            standing = random_standing(chance)
            self.told(0, at_least, one=standing, other=standing)

    def test_what_stays_what_goes_over_and_what_comes_back(self):
        cote = (((1, "a"), (2, "b"), (1, "c")), ((2, "d"),), ())
        self.told(1, at_least, one=cote, other=(((1, "a"), (2, "b")), ((2, "d"), (0, "c")), ()))
        self.told(3, at_least, one=cote, other=(((1, "a"), (1, "c")), ((2, "d"),), ((0, "b"),)))
        self.told(4, at_least, one=cote, other=(((1, "a"), (1, "c"), (2, "b")), ((2, "d"),), ()))
        self.told(6, at_least, one=cote, other=(((2, "b"), (1, "a"), (1, "c")), ((2, "d"),), ()))
        self.told(4, at_least, one=cote, other=((), ((0, "c"), (0, "a")), ((0, "b"), (1, "d"))))
        # What comes upon what stays wants no peck of its own heap.
        self.told(1, at_least, one=cote, other=(cote[0], (), ((1, "d"),)))

    def test_the_same_from_the_lowest_on_alone(self):
        # What stays at its place, but upon something else, wants both pecks, and so does what sinks.
        one = (((1, "a"), (2, "b"), (3, "c")), (), (), ())
        self.told(2 + 2 + 2, at_least, one=one, other=(((2, "b"), (1, "a"), (3, "c")), (), (), ()))
        self.told(2 + 2, at_least, one=one, other=(((1, "a"), (3, "c"), (2, "b")), (), (), ()))
        self.told(1 + 2 + 2, at_least, one=one, other=(((2, "b"), (3, "c")), ((0, "a"),), (), ()))
        self.told(1 + 2, at_least, one=one, other=(((1, "a"), (3, "c")), (), ((0, "b"),), ()))
        self.told(1, at_least, one=one, other=(((1, "a"), (2, "b")), (), (), ((0, "c"),)))

    def test_no_more_than_any_row(self):
        chance = random.Random("no more than any row")
        for cote in COTES + [random_alike(chance, 3, 4) for _ in range(10)]:
            for one in all_led(cote):
                for other, many in ways_from(one, []).items():
                    least = at_least(one, other)
                    self.same(least, at_least_by_hand(one, other))
                    self.assertLessEqual(least, many)

    def test_big_ones(self):
        chance = random.Random("big ones")
        for number in range(100):
            one = random_alike(chance, chance.randint(2, 8), 24)
            other = wander(chance, one, [], chance.choice([1, 5, 20, 200]))[1][-1]
            if number % 2:
                other = shuffled(chance, other)
            least = at_least_by_hand(one, other)
            self.assertLessEqual(least, len(between(one, other)[1]))
            self.same(at_least(one, other), least)
            if number < 20:
                self.told(least, at_least, one=one, other=other)

    def test_barred_by_a_line(self):
        self.refused(Barred, {"what": ("line", 0, 1, 0)}, at_least, one=((), ()), other=(((1, "a"),), ()))
        self.refused(Barred, {"what": ("line", 1, 2, 1)}, at_least, one=((), ((2, "a"), (2, "b")), ()),
                     other=((), ((2, "a"),), ()))
        chance = random.Random("barred")
        for _ in range(30):
            one = random_alike(chance, chance.randint(2, 6), 12)
            other = tinkered(chance, wander(chance, one, [], 20)[1][-1])
            bars = lines_barring(one, other)
            if bars:
                self.refused(Barred, {"what": bars[0]}, at_least, one=one, other=other)
            else:
                self.told(at_least_by_hand(one, other), at_least, one=one, other=other)

    def test_refused_of_unlike_many_doves(self):
        for one, other in ((((),), ((), ())), (((), ()), ((),)), (COTES[3], COTES[3] + ((),))):
            self.refused(NotSame, {}, at_least, one=one, other=other)


class LeastRow(Promises, unittest.TestCase):

    def test_a_standing_and_itself(self):
        for cote in COTES:
            for asleep in ([], list(range(len(cote)))):
                self.told([], least_row, one=cote, other=cote, asleep=asleep)

    def test_a_few(self):
        cote = COTES[3]
        self.told([0], least_row, one=cote, other=(((1, "a"),), ((2, "c"),), ((0, "b"),)), asleep=())
        # Of the shortest ones the first, as lists rise.
        self.told([0, 1], least_row, one=cote, other=(((1, "a"),), (), ((0, "b"), (1, "c"))), asleep=())
        self.told([1, 0], least_row, one=cote, other=(((1, "a"),), (), ((1, "c"), (0, "b"))), asleep=())
        self.told([0, 0, 2, 1], least_row, one=(((1, "a"), (2, "b")), (), ()), other=(((2, "b"), (1, "a")), (), ()),
                  asleep=())
        self.told(None, least_row, one=(((1, "a"), (2, "b")), (), ()), other=(((2, "b"), (1, "a")), (), ()), asleep=[2])

    def test_none_where_there_is_none(self):
        self.told(None, least_row, one=((), ()), other=(((1, "a"),), ()), asleep=())
        self.told(None, least_row, one=(((1, "a"),), ()), other=((), ()), asleep=())
        self.told(None, least_row, one=(((1, "a"),), ()), other=((), ((0, "a"),)), asleep=[0])
        self.told(None, least_row, one=((), ((0, "a"),)), other=(((1, "a"),), ()), asleep=[0, 1])
        self.told(None, least_row, one=(((1, "a"),), ()), other=((), ((0, "b"),)), asleep=())
        # However many the other one has.
        self.told(None, least_row, one=((), ()), other=(((1, "a"),) * 20, ()), asleep=())

    def test_all_rows_of_small_ones(self):
        for one in COTES[:5]:
            for asleep in itertools.chain.from_iterable(
                    itertools.combinations(range(len(one)), many) for many in range(len(one) + 1)):
                firsts = {}
                for length in range(7):
                    for row in itertools.product(range(len(one)), repeat=length):
                        firsts.setdefault(gone_by_hand(one, row, asleep), list(row))
                for other in all_led(one):
                    if other in firsts:
                        self.same(least_row(one, other, asleep=asleep), firsts[other])

    def judged(self, one, asleep):
        """All that lead from one standing to each other one of its lines."""
        universe = all_led(one)
        far = {here: ways_from(here, asleep) for here in universe}
        longest = 0
        for here in universe[:12]:
            for other in universe:
                row = least_by_hand(here, other, asleep, far)
                self.same(least_row(here, other, asleep=asleep), row)
                longest = max(longest, len(row or ()))
        return longest

    def test_all_pairs_of_small_ones_awake_and_asleep(self):
        chance = random.Random("least rows")
        longest = 0
        for cote in COTES + [random_alike(chance, chance.randint(2, 5), chance.randint(1, 4)) for _ in range(15)]:
            longest = max(longest, self.judged(cote, []), self.judged(cote, random_asleep(chance, cote)))
        self.assertGreater(longest, 7)

    def test_six_grudges(self):
        chance = random.Random("six grudges")
        for doves in (2, 3, 4, 7, 8):
            one = random_alike(chance, doves, 6)
            asleep = random_asleep(chance, one)
            for some in ([], asleep):
                far = ways_from(one, some)
                for other in chance.sample(sorted(far), min(4, len(far))):
                    row = copy.deepcopy(least_row(one, other, asleep=some))
                    self.assertEqual(len(row), far[other])
                    self.assertEqual(gone_by_hand(one, row, some), other)
                    self.told(row, least_row, one=one, other=other, asleep=some)
                    if not some:
                        self.assertLessEqual(at_least(one, other), len(row))
        hub = (tuple((about, "a") for about in range(1, 7)),) + ((),) * 6
        other = (hub[0][::-1],) + ((),) * 6
        self.assertEqual(len(least_row(hub, other)), 12)

    def test_too_many(self):
        chance = random.Random("too many")
        for grudges in (7, 8, 24):
            one = random_standing(chance, 4, grudges)
            other = wander(chance, one, [], 5)[1][-1]
            for asleep in ((), [1, 3]):
                # Also of a standing and itself, and ahead of None.
                self.refused(TooMany, {"grudges": grudges}, least_row, one=one, other=one, asleep=asleep)
                self.refused(TooMany, {"grudges": grudges}, least_row, one=one, other=other, asleep=asleep)
                self.refused(TooMany, {"grudges": grudges}, least_row, one=one, other=((),) * 4, asleep=asleep)
                # Behind unlike many doves.
                self.refused(NotSame, {}, least_row, one=one, other=((),) * 3, asleep=asleep)
                self.refused(NotSame, {}, least_row, one=one, other=one + ((),), asleep=asleep)

    def test_refused_of_unlike_many_doves(self):
        for one, other in ((((),), ((), ())), (((), ()), ((),)), (COTES[3], COTES[3] + ((),))):
            for asleep in ((), [0]):
                self.refused(NotSame, {}, least_row, one=one, other=other, asleep=asleep)


if __name__ == "__main__":
    unittest.main()
