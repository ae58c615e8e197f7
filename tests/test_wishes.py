"""wish_bar, granted and how_many_so."""

import copy
import itertools
import random
import unittest

from grudgecote.counting import how_many
from grudgecote.errors import Barred, TooMany
from grudgecote.pecks import gone
from grudgecote.wishes import granted, how_many_so, is_wish, wish_bar

from tests.helper import (
    Promises, all_led, gone_by_hand, line_by_hand, random_alike, random_standing, shuffled, tinkered, wander, wished)

# Small ones, from which all standings that pecks lead to are found one by one.
COTES = [
    ((),),
    ((), (), ()),
    (((1, "a"), (1, "b"), (1, "a")), ()),
    (((1, "a"), (2, "b")), ((2, "c"),), ()),
    (((1, "a"), (1, "a")), ((2, "a"),), ((0, "a"),)),
    (((3, "a"),), ((2, "b"), (3, "c")), (), ((2, "d"),)),
]
TRIO = (((1, "a"), (1, "b"), (2, "c")), ((2, "d"),), ((0, "e"),))


def wish_bar_by_hand(standing, wish):
    """Each word of a line is taken by who has it in the wish; the first that can't be taken bars."""
    taken = {}
    for dove, heap in enumerate(wish):
        if heap is None:
            continue
        for place, (about, word) in enumerate(heap):
            low, high = min(dove, about), max(dove, about)
            words = line_by_hand(standing, low, high)
            ahead = [target for target, _ in heap[:place]].count(about)
            at = ahead if dove == low else len(words) - 1 - ahead
            if not 0 <= at < len(words) or words[at] != word or (low, high, at) in taken:
                return (dove, place)
            taken[low, high, at] = dove
        for lesser in range(dove):
            if wish[lesser] is not None:
                many = len([one for one in taken if one[:2] == (lesser, dove)])
                if many < len(line_by_hand(standing, lesser, dove)):
                    return (dove, len(heap))
    return None


def some_told(chance, standing, share):
    return tuple(heap if chance.random() < share else None for heap in standing)


def random_wish(chance, standing):
    """A wish that comes true, or one with something put in, taken out, changed or moved."""
    other = shuffled(chance, wander(chance, standing, [], chance.choice([0, 3, 60]))[1][-1])
    for _ in range(chance.choice([0, 0, 1, 2])):
        other = tinkered(chance, other)
    if chance.random() < 0.3:
        third = wander(chance, standing, [], 20)[1][-1]
        other = tuple(chance.choice(heaps) for heaps in zip(other, third))
    return some_told(chance, other, chance.choice([0.2, 0.5, 0.8, 1]))


class Wishes(Promises, unittest.TestCase):

    def leads(self, standing, wish, row):
        self.assertIs(row.__class__, list)
        self.assertTrue(all(dove.__class__ is int for dove in row))
        self.assertTrue(wished(wish, gone_by_hand(standing, row, [])))

    def barred(self, standing, wish, bar):
        self.told(bar, wish_bar, standing=standing, wish=wish)
        self.refused(Barred, {"what": bar}, granted, standing=standing, wish=wish)
        if sum(len(heap) for heap in standing) <= 10:
            self.told(0, how_many_so, standing=standing, wish=wish)

    def granted(self, standing, wish):
        self.told(None, wish_bar, standing=standing, wish=wish)
        row = granted(standing, wish)
        self.leads(standing, wish, row)
        self.told(copy.deepcopy(row), granted, standing=standing, wish=wish)

    def judged(self, standing, wish):
        """Whether it comes true, when it is seen that what is told holds."""
        self.assertTrue(is_wish(standing, wish))
        bar = wish_bar_by_hand(standing, wish)
        self.same(wish_bar(standing, wish), bar)
        if bar is None:
            self.leads(standing, wish, granted(standing, wish))
        else:
            with self.assertRaises(Barred) as caught:
                granted(standing, wish)
            self.same(vars(caught.exception), {"what": bar})
        return bar is None

    def counted(self, standing, wish, led):
        """The same, checked against all standings that pecks lead to."""
        many = sum(1 for other in led if wished(wish, other))
        self.assertEqual(self.judged(standing, wish), many > 0)
        self.same(how_many_so(standing, wish), many)
        return many

    def test_none_told(self):
        for cote in COTES + [TRIO]:
            wish = (None,) * len(cote)
            self.granted(cote, wish)
            self.told(how_many(cote), how_many_so, standing=cote, wish=wish)

    def test_its_own_heaps(self):
        for cote in COTES + [TRIO]:
            self.granted(cote, cote)
            self.told(1, how_many_so, standing=cote, wish=cote)
            for dove, heap in enumerate(cote):
                self.granted(cote, (None,) * dove + (heap,) + (None,) * (len(cote) - dove - 1))

    def test_one_told(self):
        self.granted(TRIO, (None, ((2, "d"), (0, "b"), (0, "a")), None))
        self.granted(TRIO, (None, (), None))
        self.granted(TRIO, (((2, "c"), (1, "a"), (2, "e")), None, None))
        # Dove 2 has "d" anywhere among none, one or two of those about dove 0.
        self.told(1 + 2 + 3, how_many_so, standing=(((1, "a"),), ((2, "d"),), ((0, "e"), (0, "f"))),
                  wish=(None, ((0, "a"),), None))

    def test_a_grudge_that_is_not_the_next_word_from_its_own_end(self):
        self.barred(TRIO, (((1, "b"),), None, None), (0, 0))
        self.barred(TRIO, (((1, "a"), (1, "a")), None, None), (0, 1))
        self.barred(TRIO, (((1, "a"), (2, "c"), (1, "b"), (1, "b")), None, None), (0, 3))
        self.barred(TRIO, (((1, "a"), (2, "e")), None, None), (0, 1))
        self.barred(TRIO, (None, ((0, "a"),), None), (1, 0))
        self.barred(TRIO, (None, ((0, "b"), (2, "d"), (0, "b")), None), (1, 2))
        self.barred(TRIO, (None, None, ((0, "c"),)), (2, 0))
        self.barred(TRIO, (None, None, ((0, "e"), (0, "c"), (1, "d"), (1, "d"))), (2, 3))
        self.barred(((), ()), (((1, "a"),), None), (0, 0))
        self.barred(((), ()), (None, ((0, "a"),)), (1, 0))

    def test_a_word_that_lies_with_a_lesser_one(self):
        self.barred(TRIO, (((1, "a"), (1, "b")), ((0, "b"), (0, "a")), None), (1, 0))
        self.barred(TRIO, (((1, "a"),), ((2, "d"), (0, "b"), (0, "a")), None), (1, 2))
        self.barred(TRIO, (None, ((2, "d"),), ((0, "e"), (1, "d"))), (2, 1))
        # The greater one's is barred, not the lesser one's, and one not told takes nothing.
        self.granted(TRIO, (((1, "a"),), ((0, "b"),), None))
        self.granted(TRIO, (None, ((0, "b"), (0, "a")), None))

    def test_how_many_its_heap_has_where_not_all_is_taken(self):
        self.barred(TRIO, (((1, "a"),), (), None), (1, 0))
        self.barred(TRIO, ((), ((0, "b"),), None), (1, 1))
        self.barred(TRIO, ((), ((0, "b"), (2, "d")), None), (1, 2))
        self.barred(TRIO, ((), (), ()), (1, 0))
        self.barred(TRIO, ((), ((0, "b"), (0, "a")), ()), (2, 0))
        self.barred(TRIO, (((1, "a"), (1, "b")), ((2, "d"),), ((0, "e"),)), (2, 1))
        self.barred(TRIO, (((1, "a"), (1, "b")), (), ((0, "e"), (0, "c"))), (2, 2))
        # Of a line with one who isn't told nothing has to be taken.
        self.granted(TRIO, ((), None, ((0, "e"), (0, "c"))))
        self.granted(TRIO, (None, None, ()))

    def test_dove_by_dove_and_place_by_place(self):
        self.barred(TRIO, (((1, "x"),), ((0, "x"),), ((0, "x"),)), (0, 0))
        self.barred(TRIO, (((1, "a"), (1, "x")), ((0, "x"),), None), (0, 1))
        self.barred(TRIO, (((1, "a"),), (), ((0, "x"),)), (1, 0))
        self.barred(TRIO, (((1, "a"),), ((2, "x"),), ((0, "x"),)), (1, 0))
        # All of a lesser one's line isn't taken, but a place of the heap goes ahead of that.
        self.barred(TRIO, (((1, "a"),), ((2, "d"), (2, "d")), None), (1, 1))
        self.barred(TRIO, (None, (), ((1, "x"),)), (2, 0))

    def test_all_wishes_of_small_ones(self):
        for cote in COTES:
            led = all_led(cote)
            heaps = [sorted({other[dove] for other in led}) + [None] for dove in range(len(cote))]
            for wish in itertools.islice(itertools.product(*heaps), 3000):
                self.counted(cote, wish, led)

    def test_random_small_ones(self):
        chance = random.Random("wishes")
        counts = []
        for _ in range(120):
            standing = random_alike(chance, chance.randint(2, 5), chance.randint(0, 5))
            led = all_led(standing)
            for _ in range(12):
                counts.append(self.counted(standing, random_wish(chance, standing), led))
        self.assertGreater(counts.count(0), 200)
        self.assertGreater(counts.count(1), 100)
        self.assertGreater(len([many for many in counts if many > 1]), 200)

    def test_big_ones(self):
        chance = random.Random("big wishes")
        granted_ones = 0
        for _ in range(200):
            standing = random_alike(chance, chance.randint(5, 8), 24)
            granted_ones += self.judged(standing, random_wish(chance, standing))
        self.assertTrue(50 < granted_ones < 150)

    def test_big_ones_in_all_guises(self):
        chance = random.Random("guises of wishes")
        for _ in range(12):
            standing = random_standing(chance, 8, 24)
            wish = some_told(chance, shuffled(chance, wander(chance, standing, [], 200)[1][-1]), 0.5)
            self.granted(standing, wish)
            wish = some_told(chance, tinkered(chance, standing), 0.9)
            bar = wish_bar_by_hand(standing, wish)
            if bar is not None:
                self.barred(standing, wish, bar)
            else:
                self.granted(standing, wish)

    def test_told_rows_may_be_handed_in_whatever_their_length(self):
        chance = random.Random("rows of wishes")
        for _ in range(20):
            standing = random_standing(chance, 8, 24)
            wish = some_told(chance, shuffled(chance, standing), 0.6)
            self.assertTrue(wished(wish, gone(standing, granted(standing, wish))))

    def test_how_many_of_ten_grudges(self):
        chance = random.Random("ten grudges")
        for _ in range(10):
            standing = random_alike(chance, 8, 10)
            self.same(how_many_so(standing, (None,) * 8), how_many(standing))
            self.same(how_many_so(standing, standing), 1)
            # A dove's heap is told, or another: each standing has just one.
            led = all_led(random_alike(chance, 3, 5))
            heaps = {other[1] for other in led}
            self.same(sum(how_many_so(led[0], (None, heap, None)) for heap in heaps), len(led))

    def test_too_many(self):
        chance = random.Random("too many wishes")
        for grudges in (11, 12, 24):
            standing = random_standing(chance, 5, grudges)
            for wish in ((None,) * 5, standing, ((),) * 5):
                self.refused(TooMany, {"grudges": grudges}, how_many_so, standing=standing, wish=wish)
        # However many the wish has, those of the standing are counted.
        self.told(0, how_many_so, standing=((), ()), wish=(((1, "a"),) * 11, None))


if __name__ == "__main__":
    unittest.main()
