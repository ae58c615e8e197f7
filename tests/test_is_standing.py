"""is_standing, of what is one and of each thing that is none."""

import copy
import random
import re
import unittest

from grudgecote.standings import is_standing

from tests.helper import (
    ATOMS, Promises, as_lists, as_tuples, at, guises, places_in, random_standings, random_thing, with_part)

SAMPLE = (((1, "ab"), (2, "c")), (), ((0, "abcdef"), (1, "z"), (0, "ab")))
WRITTEN_GRUDGE = r"\(\d+, '[a-z]{1,6}'\)"
WRITTEN_HEAP = rf"\((?:{WRITTEN_GRUDGE}(?:, {WRITTEN_GRUDGE})+|{WRITTEN_GRUDGE},)?\)"
WRITTEN_STANDING = rf"\((?:{WRITTEN_HEAP}(?:, {WRITTEN_HEAP})+|{WRITTEN_HEAP},)\)"


def written_as_one(thing):
    """The same told by how Python writes the thing out."""
    if not re.fullmatch(WRITTEN_STANDING, repr(thing)):
        return False
    abouts = [(dove, about) for dove, heap in enumerate(thing) for about, _ in heap]
    return all(about < len(thing) and about != dove for dove, about in abouts)


class IsStanding(Promises, unittest.TestCase):

    def asked(self, thing, wanted):
        with self.subTest(repr(thing)):
            before = copy.deepcopy(thing)
            self.assertIs(is_standing(thing), wanted)
            self.assertIs(is_standing(thing=thing), wanted)
            self.same(thing, before)

    def test_of_one_dove_and_of_several_bare(self):
        for doves in range(1, 9):
            self.asked(((),) * doves, True)

    def test_of_words_of_one_to_six_letters(self):
        for word in ("a", "z", "ab", "abc", "abcd", "abcde", "abcdef", "zzzzzz"):
            self.asked(((), ((0, word),)), True)
        for sign in "abcdefghijklmnopqrstuvwxyz":
            self.asked((((1, sign),), ((0, "x" + sign),)), True)

    def test_of_the_same_grudge_again_and_of_each_other_dove(self):
        self.asked((((1, "a"), (1, "a")), ((0, "a"),)), True)
        for dove in range(8):
            heap = tuple((about, "ab") for about in range(8) if about != dove)
            self.asked(((),) * dove + (heap,) + ((),) * (7 - dove), True)

    def test_of_many(self):
        for standing in random_standings("is_standing", 200):
            self.asked(standing, True)

    def test_lists_are_none_at_any_depth(self):
        for way in places_in(SAMPLE):
            part = at(SAMPLE, way)
            if isinstance(part, tuple):
                self.asked(with_part(SAMPLE, way, list(part)), False)
        for guise in guises(SAMPLE)[1:]:
            self.asked(guise, False)
        self.asked([()], False)
        self.asked(([],), False)

    def test_a_grudge_about_its_own_dove(self):
        for dove in range(3):
            heaps = [(), (), ()]
            heaps[dove] = ((dove, "ab"),)
            self.asked(tuple(heaps), False)
        self.asked((((0, "ab"),),), False)

    def test_a_grudge_about_a_dove_that_is_not_there(self):
        for about in (3, 4, 99, 10 ** 30, -1, -2, -3, -4, -(10 ** 30)):
            for dove in range(3):
                heaps = [(), (), ()]
                heaps[dove] = ((about, "ab"),)
                self.asked(tuple(heaps), False)

    def test_true_and_false_are_no_numbers(self):
        self.asked(((), ((False, "ab"),)), False)
        self.asked((((True, "ab"),), ()), False)
        self.asked(((), (), ((0, "ab"), (True, "ab"))), False)

    def test_words_that_are_none(self):
        wrong = ["", "abcdefg", "abcdefgh", "A", "aB", "Ab", "a b", " a", "a ", "a1", "1", "a-b", "ab\n", "\n",
                 "a\0", "`", "{", "abcde{", "a%", "\u00e9", "\u00df", "\u0430", "\u0561b", "a\u0301", "\uff41"]
        for word in wrong:
            self.asked((((1, word),), ()), False)
            self.asked((((1, "ab"), (1, word), (1, "ab")), ()), False)

    def test_things_that_are_no_words(self):
        for thing in (None, True, False, 0, 7, (), [], ("a",), ["a"], ("a", "b"), ["a", "b"], (("a",),)):
            self.asked((((1, thing),), ()), False)

    def test_things_that_are_no_doves(self):
        for thing in (None, "", "1", "a", (), [], (1,), [1]):
            self.asked((((thing, "ab"),), ()), False)

    def test_pairs_that_are_none(self):
        for thing in ((), (1,), ("ab",), (1, "ab", 1), (1, "ab", "ab"), (1, "ab", None), ("ab", 1), (1, 1),
                      ("ab", "ab"), 1, "ab", "1a", "a", "", None, True):
            self.asked(((thing,), ()), False)
            self.asked((((1, "ab"), thing), ()), False)

    def test_heaps_that_are_none(self):
        for thing in (None, True, False, 0, 1, "", "a", "ab", (1, "ab"), ("ab",), (None,), ((),), (((1, "ab"),),)):
            self.asked((thing, ()), False)
            self.asked(((), thing), False)
            self.asked((thing,), False)

    def test_no_dove_at_all_and_bare_things(self):
        for thing in ((), [], None, True, False, 0, 1, -1, "", "a", "ab", "()", "((),)"):
            self.asked(thing, False)

    def test_things_ten_deep(self):
        for core in ATOMS + [SAMPLE]:
            for kinds in range(2 ** 6):
                thing = core
                for level in range(10 - 3 * (core is SAMPLE)):
                    thing = (thing,) if kinds >> level % 6 & 1 else [thing]
                self.asked(thing, False)
        deep = ()
        for _ in range(10):
            self.asked(deep, deep == ((),))
            deep = (deep,)

    def test_one_part_replaced_by_any_thing(self):
        parts = ATOMS + [(), [], (0,), (1, "ab"), [1, "ab"], ((1, "ab"),), SAMPLE, [()]]
        for way in places_in(SAMPLE):
            for part in parts:
                thing = with_part(SAMPLE, way, part)
                self.asked(thing, written_as_one(thing))

    def test_any_things(self):
        chance = random.Random("any things")
        for _ in range(3000):
            thing = random_thing(chance, chance.randint(0, 10), ATOMS)
            self.asked(thing, written_as_one(thing))
        for _ in range(2000):
            heaps = [[(chance.randint(-1, 3), chance.choice(["a", "zz", "abcdef"]))
                      for _ in range(chance.randint(0, 2))] for _ in range(chance.randint(0, 3))]
            thing = as_tuples(heaps)
            self.asked(thing, written_as_one(thing))
            self.asked(as_lists(thing), False)


if __name__ == "__main__":
    unittest.main()
