"""between: a row that leads there, or just what bars it."""

import copy
import itertools
import random
import unittest

from grudgecote.between import between
from grudgecote.errors import NotSame
from grudgecote.pecks import gone

from tests.helper import (
    Promises, all_led, gone_by_hand, heaps_barring, lines_barring, random_asleep, random_gifts, random_pairs,
    random_standing, random_standings, shuffled, still_by_hand, tinkered, waits_by_hand, wander)

# Dove 0 gives first to 3, dove 1 first to 2; whether that can be is seen in their heaps.
GIVERS = (((2, "a"), (3, "b")), ((3, "c"), (2, "d")), (), ())
RINGED = ((), (), ((0, "a"), (1, "d")), ((1, "c"), (0, "b")))
# Small ones, from which all standings of like lines are found one by one.
COTES = [
    ((),),
    (((1, "a"), (1, "a")), ()),
    (((1, "a"), (2, "b")), ((2, "c"),), ()),
    (((1, "a"), (1, "b"), (2, "a")), (), ()),
    (((2, "a"), (3, "b")), ((3, "a"),), (), ((2, "c"),)),
    (((1, "a"), (2, "a")), ((2, "a"), (0, "a")), ()),
    GIVERS,
]


def sleepers(standing):
    """All lists of doves that may sleep there."""
    doves = range(len(standing))
    return [list(some) for many in range(len(standing) + 1) for some in itertools.combinations(doves, many)]


class Between(Promises, unittest.TestCase):

    def leads(self, one, other, asleep, row):
        self.assertIs(row.__class__, list)
        self.assertTrue(all(dove.__class__ is int for dove in row))
        self.same(gone_by_hand(one, row, asleep), other)

    def rings(self, one, other, asleep, ring):
        self.assertIs(ring.__class__, list)
        self.assertGreaterEqual(len(ring), 2)
        self.assertEqual(len(set(ring)), len(ring))
        self.assertEqual(ring[0], min(ring))
        pairs = waits_by_hand(one, other, asleep)
        for pair in zip(ring, ring[1:] + ring[:1]):
            self.assertIn(pair, pairs)
            self.same(pair, pairs[pairs.index(pair)])

    def judged(self, one, other, asleep):
        """What is told, when it is seen that it holds."""
        told = between(one, other, asleep=asleep)
        bars = lines_barring(one, other) or heaps_barring(one, other, asleep)
        if bars:
            self.same(told, bars[0])
            return told
        self.assertIs(told.__class__, tuple)
        self.assertEqual(len(told), 2)
        self.assertIn(told[0], ("row", "ring"))
        if told[0] == "row":
            self.leads(one, other, asleep, told[1])
        else:
            self.rings(one, other, asleep, told[1])
        return told

    def in_all_guises(self, one, other, asleep):
        wanted = copy.deepcopy(self.judged(one, other, asleep))
        self.told(wanted, between, one=one, other=other, asleep=asleep)
        return wanted[0]

    def test_a_standing_and_itself(self):
        for standing in random_standings("itself", 20) + COTES + [RINGED]:
            for asleep in ([], [0], list(range(len(standing)))):
                self.assertEqual(self.in_all_guises(standing, standing, asleep), "row")

    def test_where_all_sleep_or_none_can_peck(self):
        self.told(("row", []), between, one=GIVERS, other=GIVERS, asleep=[0, 1, 2, 3])
        self.told(("row", []), between, one=RINGED, other=RINGED, asleep=[2, 3])
        self.told(("row", []), between, one=((),), other=((),), asleep=())

    def test_a_row_of_one_or_two_pecks(self):
        one = (((1, "a"), (1, "b")), ())
        self.told(("row", [0]), between, one=one, other=(((1, "a"),), ((0, "b"),)), asleep=[1])
        self.told(("row", [0, 0]), between, one=one, other=((), ((0, "b"), (0, "a"))), asleep=[1])

    def test_a_line(self):
        self.told(("line", 0, 1, 0), between, one=((), ()), other=((), ((0, "a"),)), asleep=())
        self.told(("line", 0, 1, 0), between, one=((), ()), other=((), ((0, "a"),)), asleep=[0, 1])
        self.told(("line", 1, 3, 0), between, one=GIVERS, other=RINGED[:3] + (((1, "x"), (0, "b")),), asleep=[2])

    def test_a_heap(self):
        self.told(("heap", 0, 0), between, one=GIVERS, other=RINGED, asleep=[0, 1, 2, 3])
        self.told(("heap", 2, 0), between, one=RINGED, other=GIVERS, asleep=[2, 3])
        self.told(("heap", 3, 0), between, one=RINGED, other=GIVERS, asleep=[3])
        self.told(("heap", 0, 0), between, one=(((1, "a"), (2, "b")), (), ()),
                  other=(((2, "b"),), ((0, "a"),), ()), asleep=[2])

    def test_a_line_goes_ahead_of_a_heap(self):
        self.told(("line", 1, 2, 0), between, one=(((1, "a"),), (), ((1, "b"),)),
                  other=((), ((0, "a"),), ((1, "c"),)), asleep=[0, 2])

    def test_a_ring(self):
        self.assertEqual(waits_by_hand(GIVERS, RINGED, [2, 3]), [
            ((0, 0), (0, 1)), ((0, 1), (1, 0)), ((1, 0), (1, 1)), ((1, 1), (0, 0))])
        self.told(("ring", [(0, 0), (0, 1), (1, 0), (1, 1)]), between, one=GIVERS, other=RINGED, asleep=[2, 3])
        for asleep in ([], [2], [3]):
            self.assertEqual(self.in_all_guises(GIVERS, RINGED, asleep), "row")

    def test_a_ring_begins_with_its_least_and_holds_no_other(self):
        # The lowest giving of dove 0 waits for the ring and is none of it.
        one = (((3, "x"), (2, "a"), (3, "b")), ((3, "c"), (2, "d")), (), ())
        other = ((), (), ((0, "a"), (1, "d")), ((1, "c"), (0, "b"), (0, "x")))
        self.told(("ring", [(0, 1), (0, 2), (1, 0), (1, 1)]), between, one=one, other=other, asleep=[2, 3])

    def test_the_same_givings_in_an_order_that_can_be(self):
        for two in itertools.permutations(((0, "a"), (1, "d"))):
            for three in itertools.permutations(((1, "c"), (0, "b"))):
                other = ((), (), two, three)
                wanted = "ring" if other == RINGED else "row"
                self.assertEqual(self.in_all_guises(GIVERS, other, [2, 3]), wanted)

    def test_awake_grudges_above_a_giving_are_out_of_its_way(self):
        one = (((2, "a"), (1, "x"), (1, "y")), ((2, "b"), (0, "z")), ())
        for gifts in itertools.permutations(((0, "a"), (1, "b"))):
            for many in range(4):
                words = "xyz"
                other = (tuple((1, word) for word in words[:many]),
                         tuple((0, word) for word in words[many:][::-1]), gifts)
                self.assertEqual(self.in_all_guises(one, other, [2]), "row")

    def test_all_small_ones(self):
        for cote in COTES:
            universe = all_led(cote)
            for asleep in sleepers(cote):
                with self.subTest(cote=cote, asleep=asleep):
                    for one in universe:
                        led = set(all_led(one, asleep))
                        for other in universe:
                            kind = self.judged(one, other, asleep)[0]
                            self.assertEqual(kind == "row", other in led)

    def test_all_small_ones_of_unlike_lines(self):
        chance = random.Random("unlike lines")
        for cote in COTES:
            for _ in range(10):
                one = chance.choice(all_led(cote))
                other = tinkered(chance, chance.choice(all_led(cote)))
                for asleep in sleepers(cote):
                    kind = self.judged(one, other, asleep)[0]
                    self.assertEqual(kind == "row", other in all_led(one, asleep))

    def test_random_small_ones(self):
        chance = random.Random("random small ones")
        kinds = []
        for _ in range(60):
            one, other, asleep = random_gifts(chance, doves=chance.choice([4, 4, 5]), grudges=chance.randint(4, 7))
            led = set(all_led(one, asleep))
            lowest = still_by_hand(one, other, asleep)
            others = [other] + [shuffled(chance, other, lowest) for _ in range(6)]
            others += chance.sample(sorted(led), min(5, len(led)))
            for there in others:
                kinds.append(self.judged(one, there, asleep)[0])
                self.assertEqual(kinds[-1] == "row", there in led)
        self.assertGreater(kinds.count("ring"), 10)

    def test_big_ones_that_were_led(self):
        chance = random.Random("big ones")
        for many in (1, 10, 50, 100, 200) * 8:
            standing = random_standing(chance, 8, 24)
            asleep = random_asleep(chance, standing)
            ways = wander(chance, standing, asleep, many)[1]
            self.assertEqual(self.in_all_guises(standing, ways[-1], asleep), "row")
            self.judged(ways[-1], standing, asleep)
            self.judged(ways[len(ways) // 2], ways[-1], asleep)

    def test_big_ones_however_shuffled_where_all_are_awake(self):
        chance = random.Random("shuffled")
        for standing in random_standings("shuffled", 40):
            other = shuffled(chance, wander(chance, standing, [], 100)[1][-1])
            self.assertEqual(self.in_all_guises(standing, other, []), "row")
            self.assertEqual(self.in_all_guises(other, standing, []), "row")

    def test_big_ones_with_rings(self):
        chance = random.Random("rings")
        kinds = []
        for _ in range(150):
            one, other, asleep = random_gifts(chance)
            kinds.append(self.in_all_guises(one, other, asleep))
        self.assertGreater(kinds.count("ring"), 30)
        self.assertGreater(kinds.count("row"), 30)

    def test_any_pairs(self):
        kinds = [self.in_all_guises(*triple) for triple in random_pairs("any pairs", 150)]
        for kind in ("row", "line", "heap"):
            self.assertGreater(kinds.count(kind), 10)

    def test_told_rows_may_be_handed_in_whatever_their_length(self):
        chance = random.Random("long rows")
        longest = 0
        for _ in range(60):
            one, other, asleep = random_gifts(chance, doves=8, grudges=24)
            kind, row = self.judged(one, other, asleep)
            if kind == "row":
                longest = max(longest, len(row))
                self.told(other, gone, standing=one, row=row, asleep=asleep)
        self.assertGreater(longest, 30)

    def test_refused_of_unlike_many_doves(self):
        for asleep in ((), [0]):
            self.refused(NotSame, {}, between, one=((),), other=((), ()), asleep=asleep)
            self.refused(NotSame, {}, between, one=((), ()), other=((),), asleep=asleep)
            self.refused(NotSame, {}, between, one=GIVERS, other=GIVERS + ((),), asleep=asleep)


if __name__ == "__main__":
    unittest.main()
