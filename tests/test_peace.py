"""may_make, left_of, left_in_end, done, to_the_end, struck and may_come."""

import copy
import itertools
import random
import unittest

from grudgecote.errors import BadDeed, NotSame
from grudgecote.peace import done, left_in_end, left_of, may_come, may_make, struck, to_the_end

from tests.helper import (
    HUGE, Promises, after_peck, all_led, end_by_hand, line_by_hand, lines_left, may_by_hand, may_peck, nested,
    others_like, random_alike, random_standing, random_standings, random_thing, shuffled, strikings, tinkered, wander,
    with_kinds)

TRIO = (((2, "x"), (1, "a")), ((2, "b"), (0, "a")), ((1, "b"), (0, "x")))
# Small ones, from which all standings that pecks and peace lead to are found one by one.
COTES = [
    ((),),
    (((1, "a"), (1, "a")), ((0, "a"),)),
    (((1, "a"), (1, "b"), (1, "b"), (1, "a")), ()),
    (((1, "a"), (2, "b")), ((2, "c"), (0, "a")), ()),
    (((1, "a"), (1, "a"), (2, "a")), ((2, "a"),), ()),
]


def after_deed(standing, deed):
    """What a DEED leads to; None where it can't be done."""
    if deed[0] == "peck":
        return after_peck(standing, deed[1])[0] if deed[1] in may_peck(standing, []) else None
    if deed[1:] not in may_by_hand(standing):
        return None
    return tuple(heap[:-1] if dove in deed[1:] else heap for dove, heap in enumerate(standing))


def deeds_by_hand(standing):
    """All that can be done there."""
    return [("peck", dove) for dove in may_peck(standing, [])] + [("peace",) + pair for pair in may_by_hand(standing)]


def wander_in_peace(chance, standing, many):
    """At most so many deeds by chance: these, and what each of them leads to."""
    deeds = []
    ways = [standing]
    while len(deeds) < many and deeds_by_hand(ways[-1]):
        can = deeds_by_hand(ways[-1])
        peaces = [deed for deed in can if deed[0] == "peace"]
        deeds.append(chance.choice(peaces if peaces and chance.random() < 0.5 else can))
        ways.append(after_deed(ways[-1], deeds[-1]))
    return deeds, ways


def all_come(standing):
    """All standings that pecks and peace lead to."""
    found = {standing: True}
    left = [standing]
    while left:
        here = left.pop()
        for deed in deeds_by_hand(here):
            there = after_deed(here, deed)
            if there not in found:
                found[there] = True
                left.append(there)
    return found


def is_deed_by_hand(thing, doves):
    """By how Python writes the thing out, in tuples or in lists."""
    parts = thing if isinstance(thing, (list, tuple)) else ()
    written = [with_kinds(list(deed)) for deed in
               [("peck", dove) for dove in range(doves)]
               + [("peace",) + pair for pair in itertools.combinations(range(doves), 2)]]
    return with_kinds(list(parts)) in written


class Peace(Promises, unittest.TestCase):

    def test_who_may_make_it(self):
        self.told([(0, 1)], may_make, standing=TRIO)
        self.told([], may_make, standing=((),))
        self.told([], may_make, standing=(((1, "a"),), ()))
        self.told([(0, 1)], may_make, standing=(((1, "a"),), ((0, "a"),)))
        self.told([], may_make, standing=(((1, "a"),), ((0, "b"),)))
        self.told([], may_make, standing=(((1, "a"),), ((2, "a"),), ((0, "a"),)))
        self.told([], may_make, standing=(((1, "a"),), ((2, "a"),), ((1, "b"),)))
        self.told([], may_make, standing=(((1, "a"), (2, "b")), ((0, "a"),), ()))
        self.told([(0, 3), (1, 2)], may_make,
                  standing=(((3, "a"),), ((0, "b"), (2, "c")), ((1, "c"),), ((1, "c"), (0, "a"))))
        self.told([(0, 1), (2, 3), (4, 5), (6, 7)], may_make,
                  standing=tuple(((dove ^ 1, "ab"),) for dove in range(8)))

    def test_who_may_make_it_of_many(self):
        for seed, standing in enumerate(random_standings("may make", 40)):
            chance = random.Random(seed)
            for here in wander_in_peace(chance, standing, 20)[1] + [random_alike(chance, 4, 12)]:
                self.same(may_make(here), may_by_hand(here))
            self.told(may_by_hand(standing), may_make, standing=standing)

    def test_they_are_neighbours_in_the_line(self):
        chance = random.Random("neighbours in the line")
        for _ in range(200):
            standing = random_alike(chance, chance.randint(2, 4), 12)
            for one, other in may_make(standing):
                words = line_by_hand(standing, one, other)
                many = [about for about, _ in standing[one]].count(other)
                self.assertEqual(words[many - 1], words[many])
                after = after_deed(standing, ("peace", one, other))
                self.assertEqual(line_by_hand(after, one, other), words[:many - 1] + words[many + 1:])

    def test_what_is_left_of_words(self):
        cases = [("", ""), ("a", "a"), ("aa", ""), ("aaa", "a"), ("aaaa", ""), ("ab", "ab"), ("abba", ""),
                 ("aba", "aba"), ("abbab", "b"), ("abab", "abab"), ("aabb", ""), ("abccba", ""), ("abcba", "abcba"),
                 ("abbc", "ac"), ("baab", ""), ("baabb", "b"), ("abbba", "aba"), ("cabbac", ""), ("cabbad", "cd")]
        for words, left in cases:
            self.told(tuple(left), left_of, words=list(words))
        self.told((), left_of, words=["ab", "ab"])
        self.told(("ab", "a"), left_of, words=["ab", "a", "b", "b"])
        self.told(("ab", "aba", "ab"), left_of, words=["ab", "aba", "ab"])
        self.told(("abcdef",), left_of, words=["abcdef"])

    def test_what_is_left_whichever_are_struck(self):
        for many in range(8):
            for words in itertools.product("abc", repeat=many):
                self.same(left_of(list(words)), end_by_hand(words))
        chance = random.Random("whichever")
        for _ in range(200):
            words = [chance.choice(["a", "b", "ab"]) for _ in range(chance.randint(0, 24))]
            here = list(words)
            while True:
                alike = [place for place in range(len(here) - 1) if here[place] == here[place + 1]]
                if not alike:
                    break
                place = chance.choice(alike)
                del here[place:place + 2]
            self.told(tuple(here), left_of, words=words)

    def test_what_is_left_in_the_end(self):
        self.told([], left_in_end, standing=TRIO)
        self.told([(0, 1, ("a",))], left_in_end, standing=(((1, "a"), (1, "a")), ((0, "a"),)))
        self.told([(0, 2, ("b", "a"))], left_in_end, standing=(((1, "c"), (2, "b")), ((0, "c"),), ((0, "a"),)))
        self.told([(0, 1, ("a",)), (1, 2, ("b", "c"))], left_in_end,
                  standing=(((1, "a"),), ((2, "b"),), ((1, "c"),)))
        self.told([], left_in_end, standing=((),))
        chance = random.Random("left in the end")
        for _ in range(60):
            standing = random_alike(chance, chance.randint(2, 6), chance.randint(0, 24))
            self.told(lines_left(standing), left_in_end, standing=standing)

    def test_the_same_behind_whatever_pecks_and_peace(self):
        chance = random.Random("whatever pecks and peace")
        peaces = 0
        for _ in range(80):
            standing = random_alike(chance, chance.randint(2, 6), chance.randint(0, 24))
            deeds, ways = wander_in_peace(chance, standing, 60)
            peaces += len([deed for deed in deeds if deed[0] == "peace"])
            self.same([left_in_end(here) for here in ways], [left_in_end(standing)] * len(ways))
        self.assertGreater(peaces, 100)

    def test_it_is_what_all_ends_have(self):
        for cote in COTES:
            for here in all_come(cote):
                if not any(may_by_hand(there) for there in all_led(here)):
                    pairs = itertools.combinations(range(len(here)), 2)
                    lines = [(one, other, line_by_hand(here, one, other)) for one, other in pairs]
                    self.same(left_in_end(cote), [triple for triple in lines if triple[2]])


class Deeds(Promises, unittest.TestCase):

    def bad(self, standing, deeds, place):
        self.refused(BadDeed, {"place": place}, done, standing=standing, deeds=deeds)

    def test_done(self):
        self.told(TRIO, done, standing=TRIO, deeds=[])
        self.told((((2, "x"),), ((2, "b"),), TRIO[2]), done, standing=TRIO, deeds=[("peace", 0, 1)])
        self.told(((), ((2, "b"),), ((1, "b"),)), done, standing=TRIO, deeds=[("peace", 0, 1), ("peace", 0, 2)])
        self.told(((), (), ()), done, standing=TRIO, deeds=[("peace", 0, 1), ("peace", 0, 2), ("peace", 1, 2)])
        self.told((((2, "x"),), ((2, "b"), (0, "a"), (0, "a")), TRIO[2]), done, standing=TRIO, deeds=[("peck", 0)])
        self.told(TRIO, done, standing=TRIO, deeds=[("peck", 0), ("peck", 1)])
        self.told(((),), done, standing=((),), deeds=[])

    def test_done_of_many(self):
        chance = random.Random("done")
        for _ in range(40):
            standing = random_alike(chance, chance.randint(2, 8), 24)
            deeds, ways = wander_in_peace(chance, standing, 60)
            self.told(ways[-1], done, standing=standing, deeds=deeds)

    def test_deeds_that_cannot_be_done(self):
        self.bad(((), ((0, "a"),)), [("peck", 0)], 0)
        self.bad(((), ((0, "a"),)), [("peck", 1), ("peck", 1)], 1)
        self.bad(TRIO, [("peace", 0, 2)], 0)
        self.bad(TRIO, [("peace", 0, 1), ("peace", 0, 1)], 1)
        self.bad(TRIO, [("peace", 0, 1), ("peace", 1, 2), ("peace", 0, 2)], 1)
        self.bad((((1, "a"),), ((0, "b"),)), [("peace", 0, 1)], 0)
        self.bad((((1, "a"),), ()), [("peace", 0, 1)], 0)
        self.bad(((), ((0, "a"),)), [("peace", 0, 1)], 0)
        self.bad(((),), [("peck", 0)], 0)

    def test_things_that_are_none(self):
        for thing in [None, True, False, 0, 1, -1, HUGE, "", "peck", "peace", "peck 0", (), [], ("peck",), ("peace",),
                      ("peck", 0, 1), ("peck", 0, 0), ("peace", 0), ("peace", 0, 1, 2), ("peace", (0, 1)),
                      ("peck", (0,)), ("peck", "0"), ("peck", None), ("peck", [0]), ("peace", "0", "1"),
                      ("peace", None, 1),
                      ("Peck", 0), ("pecks", 0), ("", 0), (0, "peck"), (0, 1), (0,), (None, 0), (["peck"], 0),
                      ("peck", 3), ("peck", 99), ("peck", HUGE), ("peck", -1), ("peck", -2), ("peck", -HUGE),
                      ("peace", 0, 3), ("peace", 3, 4), ("peace", -1, 0), ("peace", -3, -2), ("peace", -3, 1),
                      ("peace", 0, -2), ("peace", 0, HUGE), ("peace", 1, 0), ("peace", 2, 1), ("peace", 0, 0),
                      ("peace", 1, 1), ("peck", True), ("peck", False), ("peace", False, 1), ("peace", 0, True),
                      ("peace", False, True), [("peck", 0)], (("peck", 0),), ("peck", ("peck", 0)),
                      ("lay", 0, 1, "a"), ("undo",), ("sleep", 0), ("row", [0])]:
            self.bad(TRIO, [thing], 0)
            self.bad(TRIO, [("peck", 0), ["peck", 1], thing, ("peck", 0), None], 2)

    def test_the_first_of_all(self):
        self.bad(TRIO, [("peck", 0), ("peace", 0, 1), None, 7], 1)
        self.bad(TRIO, [("peck", 0), ("peck", 1), None, ("peck", 9)], 2)
        self.bad(TRIO, [None, None], 0)
        self.bad(TRIO, [("peace", 0, 1), ("peace", 0, 2), ("peace", 1, 2), ("peck", 0)], 3)
        chance = random.Random("the first of all")
        for _ in range(60):
            standing = random_alike(chance, 4, 12)
            deeds, ways = wander_in_peace(chance, standing, 20)
            place = chance.randint(0, len(deeds))
            every = [("peace",) + pair for pair in itertools.combinations(range(4), 2)]
            every += [("peck", dove) for dove in range(4)]
            wrong = [deed for deed in every if after_deed(ways[place], deed) is None]
            self.bad(standing, deeds[:place] + [chance.choice(wrong + [None])] + deeds[place:], place)

    def test_any_things_ten_deep(self):
        chance = random.Random("any deeds")
        atoms = [0, 1, 2, 3, -1, True, False, None, "", "peck", "peace"]
        things = [random_thing(chance, chance.randint(1, 9), atoms) for _ in range(2000)]
        things += list(others_like(("peck", 1), atoms)) + list(others_like(["peace", 0, 1], atoms))
        things += [deep for depth in range(1, 8) for core in (("peck", 0), "peck", 0) for deep in nested(core, depth)]
        found = 0
        for thing in things:
            can = is_deed_by_hand(thing, 3) and after_deed(TRIO, tuple(thing)) is not None
            found += can
            before = copy.deepcopy(thing)
            if can:
                self.same(done(TRIO, [thing]), after_deed(TRIO, tuple(thing)))
            else:
                with self.assertRaises(BadDeed) as caught:
                    done(TRIO, [thing])
                self.same(vars(caught.exception), {"place": 0})
            self.same(thing, before)
        self.assertGreater(found, 10)


class ToTheEnd(Promises, unittest.TestCase):

    def ended(self, standing):
        """Deeds, each let, behind which no line has neighbours alike."""
        deeds = to_the_end(standing)
        self.assertIs(deeds.__class__, list)
        here = standing
        for deed in deeds:
            self.assertIs(deed.__class__, tuple)
            self.assertTrue(is_deed_by_hand(deed, len(standing)))
            here = after_deed(here, deed)
        for one, other in itertools.combinations(range(len(here)), 2):
            words = line_by_hand(here, one, other)
            self.assertTrue(all(low != high for low, high in zip(words, words[1:])))
        self.same(done(standing, deeds), here)
        return here

    def test_small_ones(self):
        for cote in COTES + [TRIO]:
            for here in all_led(cote):
                there = self.ended(here)
                self.assertFalse(any(may_by_hand(behind) for behind in all_led(there)))
            self.told(copy.deepcopy(to_the_end(cote)), to_the_end, standing=cote)

    def test_random_small_ones(self):
        chance = random.Random("to the end")
        for _ in range(60):
            standing = random_alike(chance, chance.randint(2, 4), chance.randint(0, 5))
            there = self.ended(standing)
            self.assertFalse(any(may_by_hand(behind) for behind in all_led(there)))
            self.assertEqual(sum(len(heap) for heap in there), sum(len(words) for _, _, words in left_in_end(standing)))

    def test_big_ones(self):
        chance = random.Random("big ends")
        for number in range(120):
            standing = random_alike(chance, chance.randint(2, 8), 24)
            self.ended(standing)
            if number < 20:
                self.told(copy.deepcopy(to_the_end(standing)), to_the_end, standing=standing)

    def test_all_of_one_word(self):
        for doves in range(2, 6):
            standing = tuple(tuple((about, "a") for about in range(doves) if about != dove) for dove in range(doves))
            self.assertEqual(self.ended(standing), ((),) * doves)
        self.assertEqual(self.ended((((1, "a"),) * 24, ())), ((), ()))

    def test_where_no_peace_can_be_made_at_first(self):
        # What is alike lies beneath others, in both heaps.
        standing = (((1, "a"), (2, "b")), ((0, "a"), (2, "c")), ())
        self.assertEqual(may_by_hand(standing), [])
        self.assertEqual(sum(len(heap) for heap in self.ended(standing)), 2)


class Struck(Promises, unittest.TestCase):

    def shown(self, words, other, pairs):
        """What [14] says of the pairs."""
        self.assertIs(pairs.__class__, list)
        self.assertEqual(pairs, sorted(pairs))
        places = []
        for pair in pairs:
            self.assertIs(pair.__class__, tuple)
            low, high = pair
            self.assertTrue(low.__class__ is int and high.__class__ is int)
            self.assertTrue(0 <= low < high < len(words))
            self.assertEqual(words[low], words[high])
            places.extend(pair)
        self.assertEqual(len(set(places)), len(places))
        for low, high in pairs:
            for between in range(low + 1, high):
                mates = [pair for pair in pairs if between in pair]
                self.assertEqual(len(mates), 1)
                self.assertTrue(low < mates[0][0] and mates[0][1] < high)
        self.assertEqual([word for place, word in enumerate(words) if place not in places], list(other))

    def judged(self, words, other, can):
        told = struck(words, other)
        if can:
            self.shown(words, other, told)
        else:
            self.assertIsNone(told)

    def in_all_guises(self, words, other):
        told = copy.deepcopy(struck(words, other))
        self.judged(words, other, tuple(other) in strikings(words))
        self.told(told, struck, words=words, other=other)

    def test_nothing_struck(self):
        for words in ([], ["a"], ["a", "a"], ["a", "b", "b", "a"]):
            self.told([], struck, words=words, other=words)

    def test_pairs(self):
        self.told([(0, 1)], struck, words=["a", "a"], other=[])
        self.told([(0, 3), (1, 2)], struck, words=["a", "b", "b", "a"], other=[])
        self.told([(1, 2)], struck, words=["a", "b", "b", "a"], other=["a", "a"])
        self.told([(0, 1), (2, 3)], struck, words=["a", "a", "b", "b"], other=[])
        self.told([(2, 3)], struck, words=["ab", "c", "ab", "ab"], other=["ab", "c"])

    def test_none(self):
        for words, other in ((["a"], []), ([], ["a"]), (["a", "b"], []), (["a", "b", "a"], ["b"]), (["a", "a"], ["a"]),
                             (["a", "b", "b"], ["b"]), (["a"], ["a", "a", "a"]), (["a", "a", "b"], ["b", "a"]),
                             (["a", "b", "a", "b"], []), (["ab", "ab"], ["a", "b"]), (["a", "b"], ["ab"])):
            self.told(None, struck, words=words, other=other)

    def test_where_what_is_kept_is_not_all_that_could_be(self):
        # The first word is left of some strikings and not of others.
        for words, other in (("aab", "b"), ("aaab", "ab"), ("abbab", "b"), ("abbab", "abbab"), ("abbaa", "a"),
                             ("abbaa", "abb"), ("abaab", "abb"), ("bbabb", "abb"), ("bbabb", "bba"), ("caacc", "c"),
                             ("accabacca", "b"), ("abccbab", "b"), ("abccbab", "abbab")):
            self.assertIn(tuple(other), strikings(words), (words, other))
            self.in_all_guises(list(words), list(other))

    def test_all_strikings_of_short_lists(self):
        for many in range(9):
            for words in itertools.product("ab", repeat=many):
                ends = set(strikings(words))
                for length in range(many + 1):
                    for other in itertools.product("ab", repeat=length):
                        self.judged(words, other, other in ends)

    def test_all_strikings_of_three_words(self):
        chance = random.Random("three words")
        for _ in range(250):
            words = [chance.choice(["a", "b", "ab"]) for _ in range(chance.randint(0, 12))]
            ends = strikings(words)
            for other in ends:
                self.judged(words, other, True)
            for _ in range(10):
                other = list(chance.choice(ends))
                place = chance.randint(0, len(other))
                other[place:place + chance.randint(0, 2)] = [chance.choice(["a", "b", "ab"])][:chance.randint(0, 1)]
                self.judged(words, other, tuple(other) in ends)
            self.in_all_guises(words, list(chance.choice(ends)))

    def test_long_ones(self):
        chance = random.Random("long ones")
        for _ in range(100):
            words = [chance.choice("ab") for _ in range(24)]
            other = list(words)
            for _ in range(chance.randint(0, 12)):
                alike = [place for place in range(len(other) - 1) if other[place] == other[place + 1]]
                if alike:
                    place = chance.choice(alike)
                    del other[place:place + 2]
            self.judged(words, other, True)
            self.judged(words, left_of(words), True)


class MayCome(Promises, unittest.TestCase):

    def test_to_itself(self):
        for standing in random_standings("may come", 20) + COTES:
            self.told(True, may_come, one=standing, other=standing)

    def test_by_pecks_alone_and_by_peace(self):
        self.told(True, may_come, one=TRIO, other=((), (), ()))
        self.told(True, may_come, one=TRIO, other=(((2, "x"), (1, "a"), (1, "a")), ((2, "b"), (2, "b")), ((0, "x"),)))
        self.told(True, may_come, one=TRIO, other=(((2, "x"),), (), ((0, "x"),)))
        self.told(False, may_come, one=TRIO, other=(((2, "x"),), (), ()))
        self.told(False, may_come, one=((), (), ()), other=TRIO)
        self.told(False, may_come, one=(((1, "a"), (1, "b")), ((0, "a"),)), other=(((1, "b"),), ()))

    def test_small_ones(self):
        chance = random.Random("small ones")
        told = []
        for cote in COTES + [random_alike(chance, 3, 4) for _ in range(15)]:
            come = all_come(cote)
            others = list(come) + [tinkered(chance, other) for other in come]
            others += [shuffled(chance, other) for other in chance.sample(list(come), min(5, len(come)))]
            for other in others:
                told.append(may_come(cote, other))
                self.assertIs(told[-1], other in come)
        self.assertGreater(told.count(False), 100)

    def test_big_ones(self):
        chance = random.Random("big ones")
        for number in range(60):
            standing = random_alike(chance, chance.randint(2, 8), 24)
            other = shuffled(chance, wander_in_peace(chance, standing, 60)[1][-1])
            self.assertIs(may_come(standing, other), True)
            self.assertIs(may_come(standing, done(standing, to_the_end(standing))), True)
            if number < 15:
                self.told(True, may_come, one=standing, other=other)
            other = tinkered(chance, other)
            lines = [(line_by_hand(standing, *pair), line_by_hand(other, *pair))
                     for pair in itertools.combinations(range(len(standing)), 2)]
            self.assertIs(may_come(standing, other), all(left in strikings(words) for words, left in lines))

    def test_not_where_one_line_alone_is_unlike(self):
        chance = random.Random("one line alone")
        for _ in range(30):
            standing = random_standing(chance, 8, 16)
            more = wander(chance, standing, [], 5)[1][-1]
            other = more[:7] + (more[7] + ((chance.randint(0, 6), "a"),),)
            self.told(False, may_come, one=standing, other=other)

    def test_refused_of_unlike_many_doves(self):
        for one, other in ((((),), ((), ())), (((), ()), ((),)), (TRIO, TRIO + ((),))):
            self.refused(NotSame, {}, may_come, one=one, other=other)


if __name__ == "__main__":
    unittest.main()
