"""is_wish, of what is one and of each thing that is none."""

import copy
import random
import unittest

from grudgecote.standings import is_standing
from grudgecote.wishes import is_wish

from tests.helper import (
    ATOMS, Promises, all_led, as_lists, at, guises, nested, others_like, places_in, random_standings, random_thing,
    with_part)

STANDING = (((1, "x"),), ((2, "y"), (0, "z")), ())
SAMPLE = (((1, "ab"), (2, "c")), None, ((0, "abcdef"), (1, "z"), (0, "ab")))


def wish_by_hand(doves, thing):
    """As many parts as doves, and with a bare heap for each None a standing."""
    if thing.__class__ is not tuple or len(thing) != doves:
        return False
    return is_standing(tuple(() if heap is None else heap for heap in thing))


class IsWish(Promises, unittest.TestCase):

    def asked(self, thing, wanted, standing=STANDING):
        """The standing in all guises; the thing just as it is."""
        for given in guises(standing):
            before = copy.deepcopy((given, thing))
            self.assertIs(is_wish(given, thing), wanted, repr(thing))
            self.assertIs(is_wish(standing=given, thing=thing), wanted, repr(thing))
            self.same((given, thing), before)

    def test_none_told_all_told_and_each_between(self):
        for standing in random_standings("is_wish", 40):
            self.asked((None,) * len(standing), True, standing)
            self.asked(standing, True, standing)
            self.asked(((),) * len(standing), True, standing)
            for dove, heap in enumerate(standing):
                wish = (None,) * dove + (heap,) + (None,) * (len(standing) - dove - 1)
                self.asked(wish, True, standing)
                self.asked(standing[:dove] + (None,) + standing[dove + 1:], True, standing)

    def test_of_grudges_that_are_nowhere_in_the_standing(self):
        self.asked((((1, "zzzzzz"),) * 9, None, ((0, "a"), (1, "b"))), True)
        self.asked((((1, "ab"),), ((0, "ab"),), None), True, ((), (), ()))

    def test_of_one_dove(self):
        for thing, wanted in (((None,), True), (((),), True), ((), False), ((None, None), False), (None, False),
                              ([None], False), (([],), False), ((((0, "a"),),), False), ((((1, "a"),),), False)):
            self.asked(thing, wanted, ((),))

    def test_too_few_and_too_many(self):
        for many in range(9):
            self.asked((None,) * many, many == 3)
            self.asked(((),) * many, many == 3)
        self.asked(SAMPLE[:2], False)
        self.asked(SAMPLE + (None,), False)
        self.asked(SAMPLE + ((),), False)

    def test_lists_are_none_at_any_depth(self):
        self.asked(SAMPLE, True)
        for way in places_in(SAMPLE):
            part = at(SAMPLE, way)
            if isinstance(part, tuple):
                self.asked(with_part(SAMPLE, way, list(part)), False)
        for guise in guises(SAMPLE)[1:]:
            self.asked(guise, False)
        self.asked([None, None, None], False)

    def test_grudges_about_its_own_dove_or_one_that_is_not_there(self):
        for dove in range(3):
            for about in range(-4, 6):
                wish = [None] * 3
                wish[dove] = ((about, "ab"),)
                self.asked(tuple(wish), 0 <= about < 3 and about != dove)
        self.asked((((10 ** 30, "ab"),), None, None), False)

    def test_true_and_false_are_no_numbers_and_no_heaps(self):
        self.asked((None, None, ((True, "ab"),)), False)
        self.asked((None, ((False, "ab"),), None), False)
        self.asked((False, None, None), False)
        self.asked((None, True, None), False)

    def test_words_that_are_none(self):
        for word in ("", "abcdefg", "A", "aB", "a b", "a1", "ab\n", "a-", "`", "{", "\u00e9", "\u0430", None, 1,
                     ("a",)):
            self.asked((None, ((0, word),), None), False)
            self.asked((None, ((0, "ab"), (2, word)), None), False)

    def test_things_of_other_kinds(self):
        for thing in ATOMS + [(), [], ((),), [()], "None", (None,), ("a", None, None), (0, None, None), ((None,),) * 3,
                              (((),),) * 3, ((1, "ab"), None, None), (("ab",), None, None),
                              (((1, "a", 1),), None, None)]:
            self.asked(thing, False)
            self.asked((None, thing, None), thing is None or thing == ())

    def test_things_ten_deep(self):
        for depth in range(1, 11):
            for core in (None, (), SAMPLE, "ab", 1):
                for thing in nested(core, depth - 4 if core is SAMPLE and depth > 4 else depth):
                    self.asked(thing, False)
                    self.asked(thing, thing == ((),) or thing == (None,), ((),))

    def test_one_part_replaced_by_any_thing(self):
        for thing in others_like(SAMPLE, ATOMS + [(1, "ab"), [1, "ab"], ((1, "ab"),), SAMPLE]):
            wanted = wish_by_hand(3, thing)
            self.assertIs(is_wish(STANDING, thing), wanted, repr(thing))

    def test_any_things(self):
        chance = random.Random("any wishes")
        for _ in range(3000):
            thing = random_thing(chance, chance.randint(0, 10), ATOMS)
            self.assertIs(is_wish(STANDING, thing), wish_by_hand(3, thing), repr(thing))
        found = 0
        for _ in range(2000):
            heaps = [chance.choice([None, tuple((chance.randint(-1, 3), chance.choice(["a", "zz", "abcdef"]))
                                                for _ in range(chance.randint(0, 2)))])
                     for _ in range(chance.randint(2, 4))]
            found += wish_by_hand(3, tuple(heaps))
            self.asked(tuple(heaps), wish_by_hand(3, tuple(heaps)))
            self.asked(as_lists(tuple(heaps)), False)
        self.assertGreater(found, 100)

    def test_all_that_pecks_lead_to(self):
        for standing in all_led(STANDING):
            self.asked(standing, True)


if __name__ == "__main__":
    unittest.main()
