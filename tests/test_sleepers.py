"""given_bar, given_row and heaps_many."""

import copy
import itertools
import math
import random
import unittest

from grudgecote.errors import Awake, Barred, NoDove
from grudgecote.pecks import gone
from grudgecote.sleepers import given_bar, given_row, heaps_many

from tests.helper import (
    HUGE, Promises, all_led, gone_by_hand, random_asleep, random_gifts, random_standing, rings_by_hand, tinkered,
    waits_of, wander, wished)

# Dove 0 gives first to 3, dove 1 first to 2.
GIVERS = (((2, "a"), (3, "b")), ((3, "c"), (2, "d")), (), ())
# Dove 2 sleeps and has something already; the others have something for it, and for one another.
HOLDS = (((2, "a"), (1, "x"), (2, "b")), ((2, "c"), (0, "y")), ((0, "d"), (1, "e")))


def lies_by_hand(standing, wish, asleep):
    """Each GIVING to those told and where it lies with its sleeper, by a wish that no heap bars."""
    lies = {}
    for dove, heap in enumerate(wish):
        stock = {giver: [place for place, (about, _) in enumerate(own) if about == dove]
                 for giver, own in enumerate(standing) if giver not in asleep}
        for height in range(len(standing[dove]), len(heap or ())):
            giver = heap[height][0]
            lies[giver, stock[giver].pop()] = (dove, height)
    return lies


def heap_by_hand(standing, wish, asleep):
    """The first heap that bars: how far what sleepers can come to have goes along with the wish."""
    for dove, heap in enumerate(wish):
        if heap is None:
            continue
        stock = {giver: [word for about, word in own if about == dove]
                 for giver, own in enumerate(standing) if giver not in asleep}
        got = list(standing[dove])
        for giver, word in heap[len(got):]:
            if stock.get(giver):
                got.append((giver, stock[giver].pop()))
            else:
                break
        many = len([None for upto in range(1, len(got) + 1) if tuple(got[:upto]) == heap[:upto]])
        if many < max(len(heap), len(standing[dove])):
            return ("heap", dove, many)
    return None


def above_by_hand(standing, wish, lies):
    found = []
    for dove, heap in enumerate(standing):
        for low, high in itertools.combinations(range(len(heap)), 2):
            if (dove, low) in lies and (dove, high) not in lies and wish[heap[high][0]] is not None:
                found.append(("above", dove, high))
    return min(found, default=None)


def heaps_by_hand(standing, dove, asleep):
    """Of each number of grudges that each giver gives, how many ways there are to mingle them."""
    many = 0
    stock = [range([about for about, _ in heap].count(dove) + 1)
             for giver, heap in enumerate(standing) if giver not in asleep]
    for shares in itertools.product(*stock):
        ways = math.factorial(sum(shares))
        for share in shares:
            ways //= math.factorial(share)
        many += ways
    return many


def told_some(chance, other, asleep, share=0.7):
    return tuple(heap if dove in asleep and chance.random() < share else None for dove, heap in enumerate(other))


def random_wish(chance, standing, asleep):
    """What sleepers can come to have, or that with something put in, taken out, changed or moved."""
    other = wander(chance, standing, asleep, chance.choice([2, 10, 200, 200]))[1][-1]
    kind = chance.choice(["led", "tinkered", "shorter", "mixed", "shuffled", "shuffled", "shuffled"])
    if kind == "tinkered":
        other = tinkered(chance, other)
    if kind == "shorter":
        other = tuple(heap[:chance.randint(0, len(heap))] for heap in other)
    if kind == "mixed":
        third = wander(chance, standing, asleep, 200)[1][-1]
        other = tuple(chance.choice(heaps) for heaps in zip(other, third))
    if kind == "shuffled":
        heaps = []
        for here, there in zip(standing, other):
            abouts = [about for about, _ in there[len(here):]]
            words = {about: [word for one, word in there[len(here):] if one == about] for about in abouts}
            chance.shuffle(abouts)
            heaps.append(here + tuple((about, words[about].pop(0)) for about in abouts))
        other = tuple(heaps)
    return told_some(chance, other, asleep, chance.choice([0.5, 1, 1]))


class Sleepers(Promises, unittest.TestCase):

    def leads(self, standing, wish, asleep, row):
        self.assertIs(row.__class__, list)
        self.assertTrue(all(dove.__class__ is int for dove in row))
        self.assertTrue(wished(wish, gone_by_hand(standing, row, asleep)))

    def rings(self, told, pairs):
        self.assertIs(told.__class__, tuple)
        self.assertEqual(told[0], "ring")
        self.assertEqual(len(told), 2)
        self.assertIs(told[1].__class__, list)
        self.assertEqual(told[1][0], min(told[1]))
        for pair in zip(told[1], told[1][1:] + told[1][:1]):
            self.same(pair, pairs[pairs.index(pair)])
        self.assertIn(told[1], rings_by_hand(pairs))

    def judged(self, standing, wish, asleep):
        """What is told, when it is seen that it holds."""
        told = given_bar(standing, wish, asleep=asleep)
        bar = heap_by_hand(standing, wish, asleep)
        if bar is None:
            bar = above_by_hand(standing, wish, lies_by_hand(standing, wish, asleep))
        if bar is not None:
            self.same(told, bar)
        elif told is not None:
            self.rings(told, waits_of(lies_by_hand(standing, wish, asleep)))
        if told is None:
            self.leads(standing, wish, asleep, given_row(standing, wish, asleep=asleep))
        else:
            with self.assertRaises(Barred) as caught:
                given_row(standing, wish, asleep=asleep)
            self.same(vars(caught.exception), {"what": told})
        return told

    def in_all_guises(self, standing, wish, asleep):
        told = copy.deepcopy(self.judged(standing, wish, asleep))
        self.told(told, given_bar, standing=standing, wish=wish, asleep=asleep)
        if told is None:
            row = copy.deepcopy(given_row(standing, wish, asleep=asleep))
            self.told(row, given_row, standing=standing, wish=wish, asleep=asleep)
        else:
            self.refused(Barred, {"what": told}, given_row, standing=standing, wish=wish, asleep=asleep)
        return told

    def barred(self, bar, standing, wish, asleep):
        self.same(self.in_all_guises(standing, wish, asleep), bar)

    def granted(self, standing, wish, asleep):
        self.assertIsNone(self.in_all_guises(standing, wish, asleep))

    def test_none_told(self):
        for asleep in ([], [2], [2, 3], [0, 1, 2, 3]):
            self.granted(GIVERS, (None,) * 4, asleep)
        self.granted(((),), (None,), [])
        self.granted(((),), ((),), [0])

    def test_what_they_have_already(self):
        self.granted(HOLDS, (None, None, HOLDS[2]), [2])
        self.granted(HOLDS, HOLDS, [0, 1, 2])
        self.granted(GIVERS, (None, None, (), ()), [2, 3])

    def test_what_is_given_them(self):
        for heap in ((0, "b"),), ((1, "c"),), ((0, "b"), (0, "a"), (1, "c")), ((1, "c"), (0, "b"), (0, "a")):
            self.granted(HOLDS, (None, None, HOLDS[2] + heap), [2])
        # What lies above it is given on the way, be it to one who is awake.
        self.granted(HOLDS, (HOLDS[0] + ((1, "y"), (2, "d")), None, None), [0])

    def test_a_heap_that_is_otherwise_already(self):
        self.barred(("heap", 2, 0), HOLDS, (None, None, ((1, "e"), (0, "d"))), [2])
        self.barred(("heap", 2, 0), HOLDS, (None, None, ((0, "b"),)), [2])
        self.barred(("heap", 2, 1), HOLDS, (None, None, ((0, "d"), (1, "c"))), [2])
        self.barred(("heap", 2, 1), HOLDS, (None, None, ((0, "d"), (1, "x"), (0, "b"))), [2])

    def test_how_many_a_heap_has_where_it_has_fewer(self):
        self.barred(("heap", 2, 0), HOLDS, (None, None, ()), [2])
        self.barred(("heap", 2, 1), HOLDS, (None, None, ((0, "d"),)), [2])
        self.barred(("heap", 1, 1), HOLDS, (None, HOLDS[1][:1], None), [1, 2])

    def test_a_grudge_that_none_can_give_then(self):
        self.barred(("heap", 2, 2), HOLDS, (None, None, HOLDS[2] + ((0, "a"),)), [2])
        self.barred(("heap", 2, 3), HOLDS, (None, None, HOLDS[2] + ((0, "b"), (0, "b"))), [2])
        self.barred(("heap", 2, 4), HOLDS, (None, None, HOLDS[2] + ((0, "b"), (0, "a"), (0, "a"))), [2])
        self.barred(("heap", 2, 3), HOLDS, (None, None, HOLDS[2] + ((1, "c"), (1, "c"))), [2])
        # Who sleeps gives nothing, and what is about another one stays out.
        self.barred(("heap", 2, 2), HOLDS, (None, None, HOLDS[2] + ((0, "b"),)), [0, 2])
        self.barred(("heap", 2, 2), HOLDS, (None, None, HOLDS[2] + ((0, "x"),)), [2])
        # What an awake dove gets of another one is no gift.
        self.barred(("heap", 2, 2), HOLDS, (None, None, HOLDS[2] + ((1, "x"),)), [2])

    def test_dove_by_dove(self):
        sleepy = GIVERS[:2] + (((0, "x"),), ((1, "y"),))
        self.barred(("heap", 2, 0), sleepy, (None, None, (), ()), [2, 3])
        self.barred(("heap", 3, 0), sleepy, (None, None, ((0, "x"),), ()), [2, 3])
        self.barred(("heap", 3, 0), sleepy, (None, None, None, ()), [2, 3])
        self.barred(("heap", 2, 2), sleepy, (None, None, ((0, "x"), (1, "d"), (1, "d")), ()), [2, 3])

    def test_a_grudge_that_lies_above(self):
        self.barred(("above", 0, 1), GIVERS, (None, None, ((0, "a"),), ()), [2, 3])
        self.barred(("above", 1, 1), GIVERS, (None, None, (), ((1, "c"),)), [2, 3])
        self.barred(("above", 0, 1), GIVERS, (None, None, ((0, "a"),), ((1, "c"),)), [2, 3])
        # It isn't in the way where its sleeper isn't told, or where it is given, too.
        self.granted(GIVERS, (None, None, ((0, "a"),), None), [2, 3])
        self.granted(GIVERS, (None, None, ((0, "a"),), ((0, "b"),)), [2, 3])
        # A heap goes ahead of that.
        self.barred(("heap", 3, 0), GIVERS, (None, None, ((0, "a"),), ((1, "x"),)), [2, 3])

    def test_the_lowest_place_above(self):
        standing = (((3, "a"), (2, "b"), (1, "c"), (4, "d"), (2, "e"), (3, "f")), ((2, "g"), (4, "h")), (), (), ())
        asleep = [2, 3, 4]
        self.barred(("above", 0, 3), standing, (None, None, ((0, "e"), (0, "b")), ((0, "f"),), ()), asleep)
        self.barred(("above", 0, 1), standing, (None, None, ((0, "e"),), ((0, "f"), (0, "a")), ((0, "d"),)), asleep)
        self.barred(("above", 0, 5), standing, (None, None, ((0, "e"), (0, "b")), (), None), asleep)
        self.barred(("above", 1, 1), standing, (None, None, ((1, "g"),), None, ()), asleep)
        self.granted(standing, (None, None, ((1, "g"),), None, None), asleep)
        # Beneath all that is given it isn't in the way.
        self.granted(standing, (None, None, (), ((0, "f"),), ()), asleep)

    def test_a_ring(self):
        ringed = (None, None, ((0, "a"), (1, "d")), ((1, "c"), (0, "b")))
        self.barred(("ring", [(0, 0), (0, 1), (1, 0), (1, 1)]), GIVERS, ringed, [2, 3])
        for two in itertools.permutations(((0, "a"), (1, "d"))):
            for three in itertools.permutations(((1, "c"), (0, "b"))):
                if (None, None, two, three) != ringed:
                    self.granted(GIVERS, (None, None, two, three), [2, 3])
        self.granted(GIVERS, ringed[:3] + (None,), [2, 3])
        self.granted(GIVERS, (None, None, None, ringed[3]), [2, 3])
        # One not told is in nobody's way: what it gets waits for nothing, and nothing waits for it.
        standing = (((2, "a"), (4, "x"), (3, "b")), ((3, "c"), (2, "d")), (), (), ())
        self.barred(("ring", [(0, 0), (0, 2), (1, 0), (1, 1)]), standing, ringed + (None,), [2, 3, 4])
        self.barred(("ring", [(0, 0), (0, 1), (0, 2), (1, 0), (1, 1)]), standing, ringed + (((0, "x"),),), [2, 3, 4])

    def test_what_lies_above_goes_ahead_of_a_ring(self):
        standing = (((2, "a"), (3, "b"), (4, "x")), ((3, "c"), (2, "d")), (), (), ())
        ringed = (None, None, ((0, "a"), (1, "d")), ((1, "c"), (0, "b")))
        self.barred(("above", 0, 2), standing, ringed + ((),), [2, 3, 4])

    def test_what_is_kept_already_waits_for_nothing(self):
        standing = GIVERS[:2] + (((0, "x"),), ((1, "y"),))
        self.granted(standing, (None, None, ((0, "x"), (1, "d")), ((1, "y"), (1, "c"))), [2, 3])
        self.barred(("ring", [(0, 0), (0, 1), (1, 0), (1, 1)]), standing,
                    (None, None, ((0, "x"), (0, "a"), (1, "d")), ((1, "y"), (1, "c"), (0, "b"))), [2, 3])

    def led_by_hand(self, standing, wish, asleep, led):
        """Whether it comes true, by all standings that pecks lead to; of a heap how far any of them goes."""
        told = self.judged(standing, wish, asleep)
        self.assertEqual(told is None, any(wished(wish, other) for other in led))
        for dove, heap in enumerate(wish):
            if heap is not None:
                longest = max(upto for other in led for upto in range(len(heap) + 1)
                              if other[dove][:upto] == heap[:upto])
                if longest < max(len(heap), len(standing[dove])):
                    self.same(told, ("heap", dove, longest))
                    break
        return "none" if told is None else told[0]

    def test_all_small_ones(self):
        cotes = [(GIVERS, [2, 3]), (GIVERS, [2]), (HOLDS, [2]), (HOLDS, [0]), (HOLDS, [0, 2]), (HOLDS, [0, 1, 2]),
                 ((((1, "a"), (1, "a")), ()), [1]), (((), ()), [0]), (((),), [0])]
        for standing, asleep in cotes:
            led = all_led(standing, asleep)
            heaps = [sorted({other[dove] for other in led}) + [None] if dove in asleep else [None]
                     for dove in range(len(standing))]
            for wish in itertools.product(*heaps):
                self.led_by_hand(standing, wish, asleep, led)

    def test_random_small_ones(self):
        chance = random.Random("sleepers")
        kinds = []
        for _ in range(250):
            standing, _, asleep = random_gifts(chance, doves=chance.choice([4, 4, 5]), grudges=chance.randint(2, 7))
            led = all_led(standing, asleep)
            for _ in range(10):
                kinds.append(self.led_by_hand(standing, random_wish(chance, standing, asleep), asleep, led))
        for kind in ("none", "heap", "above", "ring"):
            self.assertGreater(kinds.count(kind), 15, kind)

    def test_big_ones(self):
        chance = random.Random("big sleepers")
        kinds = []
        for number in range(500):
            standing, _, asleep = random_gifts(chance, doves=chance.randint(5, 8), grudges=24)
            wish = random_wish(chance, standing, asleep)
            told = self.judged(standing, wish, asleep)
            kinds.append("none" if told is None else told[0])
            if number < 40:
                self.in_all_guises(standing, wish, asleep)
        for kind in ("none", "heap", "above", "ring"):
            self.assertGreater(kinds.count(kind), 25, kind)

    def test_what_they_came_to_have(self):
        chance = random.Random("came to have")
        for _ in range(40):
            standing = random_standing(chance, 8, 24)
            asleep = random_asleep(chance, standing)
            wish = told_some(chance, wander(chance, standing, asleep, 200)[1][-1], asleep)
            self.granted(standing, wish, asleep)
            row = given_row(standing, wish, asleep=asleep)
            self.assertTrue(wished(wish, gone(standing, row, asleep=asleep)))

    def test_heaps_of_small_ones(self):
        self.told(1, heaps_many, standing=((),), dove=0, asleep=[0])
        self.told(1, heaps_many, standing=HOLDS, dove=2, asleep=[0, 1, 2])
        self.told(3, heaps_many, standing=HOLDS, dove=2, asleep=[1, 2])
        # None, of one giver "b" or "b", "a", or "c"; and "c" among these.
        self.told(3 + 1 + 2 + 3, heaps_many, standing=HOLDS, dove=2, asleep=[2])
        chance = random.Random("heaps")
        for _ in range(150):
            standing = random_standing(chance, chance.choice([1, 2, 3, 4, 5]), chance.randint(0, 7))
            asleep = random_asleep(chance, standing)
            led = all_led(standing, asleep)
            for dove in asleep:
                many = len({other[dove] for other in led})
                self.same(heaps_many(standing, dove, asleep=asleep), many)
                self.assertEqual(heaps_by_hand(standing, dove, asleep), many)

    def test_heaps_of_big_ones(self):
        chance = random.Random("big heaps")
        for _ in range(40):
            standing, _, asleep = random_gifts(chance, doves=8, grudges=24)
            dove = chance.choice(asleep)
            self.told(heaps_by_hand(standing, dove, asleep), heaps_many, standing=standing, dove=dove, asleep=asleep)

    def test_heaps_too_many_to_be_listed(self):
        standing = (((2, "a"),) * 12, ((2, "b"),) * 12, ())
        # All lists of at most twelve of either: the paths of a square of twelve, each ended anywhere.
        self.told(math.comb(26, 13) - 1, heaps_many, standing=standing, dove=2, asleep=[2])
        standing = (((7, "a"), (7, "b"), (7, "c")),) * 4 + (((7, "d"), (7, "a"), (7, "a"), (7, "b")),) * 3 + ((),)
        self.told(heaps_by_hand(standing, 7, [7]), heaps_many, standing=standing, dove=7, asleep=[7])

    def test_heaps_refused(self):
        for dove in (3, 4, -1, -3, HUGE, -HUGE):
            for asleep in ([], [2], [0, 1, 2]):
                self.refused(NoDove, {"dove": dove}, heaps_many, standing=HOLDS, dove=dove, asleep=asleep)
        for dove in (0, 1):
            self.refused(Awake, {"dove": dove}, heaps_many, standing=HOLDS, dove=dove, asleep=[2])
        for dove in (0, 1, 2):
            self.refused(Awake, {"dove": dove}, heaps_many, standing=HOLDS, dove=dove, asleep=[])


if __name__ == "__main__":
    unittest.main()
