"""Cote: its deeds, its asks, and what is done to one changes no other."""

import copy
import random
import unittest

from grudgecote.between import between
from grudgecote.cote import Cote
from grudgecote.errors import Asleep, Awake, Bare, NoDeed, NoDove, NoPeace, NotSame, Own

from tests.helper import (
    HUGE, CoteByHand, Promises, guises, lists_in, random_alike, random_asleep, random_deed, random_pairs,
    random_standing, random_standings, shuffled, wander)

TRIO = (((2, "x"), (1, "a")), ((2, "b"), (0, "a")), ((0, "x"),))


def do(cote, deed):
    """Do what a log tells to a cote."""
    return getattr(cote, deed[0])(*deed[1:])


def made_anew(model):
    """A cote made anew of the deeds that stand."""
    cote = Cote(model.began[0], asleep=model.began[1])
    for deed in model.stand:
        do(cote, deed)
    return cote


def deed_of(word):
    """The deed as a function of a cote's standing and sleepers and of what the deed is handed."""
    def call(standing, *parts, asleep=(), **named):
        cote = Cote(standing, asleep=asleep)
        told = getattr(cote, word)(*parts, **named)
        return told, cote.standing(), cote.asleep(), cote.deeds()

    return call


def ask_of(word):
    """The ask likewise."""
    def call(standing, *parts, asleep=(), **named):
        return getattr(Cote(standing, asleep=asleep), word)(*parts, **named)

    return call


class OneDeed(Promises, unittest.TestCase):

    def does(self, deed, told, behind, standing=TRIO, asleep=(), slept=None, **handed):
        slept = tuple(asleep) if slept is None else slept
        self.told((told, behind, slept, 1), deed_of(deed), standing=standing, asleep=asleep, **handed)

    def refuses(self, kind, field, deed, standing=TRIO, asleep=(), **handed):
        self.refused(kind, field, deed_of(deed), standing=standing, asleep=asleep, **handed)
        cote = Cote(standing, asleep=asleep)
        with self.assertRaises(kind):
            getattr(cote, deed)(**handed)
        self.same((cote.standing(), cote.asleep(), cote.deeds(), cote.log(), cote.undo()),
                  (standing, tuple(asleep), 0, [], False))

    def test_peck(self):
        self.does("peck", (1, "a"), (((2, "x"),), ((2, "b"), (0, "a"), (0, "a")), TRIO[2]), dove=0)
        self.does("peck", (0, "x"), (TRIO[0] + ((2, "x"),), TRIO[1], ()), dove=2, asleep=[0, 1])
        for dove in (3, 7, -1, -3, HUGE, -HUGE):
            self.refuses(NoDove, {"dove": dove}, "peck", dove=dove)
            self.refuses(NoDove, {"dove": dove}, "peck", dove=dove, asleep=[0, 1, 2])
        self.refuses(Asleep, {"dove": 1}, "peck", dove=1, asleep=[1])
        self.refuses(Asleep, {"dove": 1}, "peck", dove=1, asleep=[1], standing=((), (), ()))
        self.refuses(Bare, {"dove": 1}, "peck", dove=1, standing=((), (), ()))

    def test_go(self):
        self.does("go", [], TRIO, row=[])
        self.does("go", [(1, "a")], (((2, "x"),), ((2, "b"), (0, "a"), (0, "a")), TRIO[2]), row=[0])
        self.does("go", [(1, "a"), (2, "x"), (0, "x")], (((2, "x"),), ((2, "b"), (0, "a"), (0, "a")), TRIO[2]),
                  row=[0, 0, 2])
        self.does("go", [], TRIO, row=[], asleep=[0, 1, 2])
        self.refuses(NoDove, {"dove": 3}, "go", row=[0, 3])
        self.refuses(NoDove, {"dove": -1}, "go", row=[-1, 3, 0])
        self.refuses(Asleep, {"dove": 1}, "go", row=[0, 0, 1], asleep=[1, 2])
        self.refuses(Bare, {"dove": 0}, "go", row=[0, 0, 0])
        self.refuses(Bare, {"dove": 0}, "go", row=[0, 0, 0, 7, 1], asleep=[1])

    def test_peace(self):
        behind = (((2, "x"),), ((2, "b"),), TRIO[2])
        self.does("peace", None, behind, one=0, other=1)
        self.does("peace", None, behind, one=1, other=0)
        self.does("peace", None, behind, one=1, other=0, asleep=[2])
        self.refuses(NoDove, {"dove": 3}, "peace", one=3, other=-1)
        self.refuses(NoDove, {"dove": -1}, "peace", one=-1, other=3)
        self.refuses(NoDove, {"dove": 3}, "peace", one=0, other=3, asleep=[0])
        self.refuses(NoDove, {"dove": 4}, "peace", one=4, other=1, asleep=[1])
        self.refuses(Asleep, {"dove": 0}, "peace", one=0, other=1, asleep=[0])
        self.refuses(Asleep, {"dove": 0}, "peace", one=1, other=0, asleep=[0])
        self.refuses(Asleep, {"dove": 0}, "peace", one=0, other=1, asleep=[0, 1])
        self.refuses(Asleep, {"dove": 1}, "peace", one=1, other=0, asleep=[0, 1])
        self.refuses(Asleep, {"dove": 2}, "peace", one=0, other=2, asleep=[2])
        self.refuses(NoPeace, {}, "peace", one=0, other=2)
        self.refuses(NoPeace, {}, "peace", one=2, other=0)
        for one, other in ((((1, "a"),), ((0, "b"),)), (((1, "a"),), ()), ((), ()),
                           (((1, "a"), (1, "b")), ((0, "a"),))):
            self.refuses(NoPeace, {}, "peace", standing=(one, other), one=0, other=1)

    def test_lay(self):
        self.does("lay", None, (TRIO[0] + ((1, "new"),), TRIO[1], TRIO[2]), dove=0, about=1, word="new")
        self.does("lay", None, (TRIO[0], TRIO[1], TRIO[2] + ((1, "abcdef"),)), dove=2, about=1, word="abcdef")
        self.does("lay", None, (TRIO[0], TRIO[1], TRIO[2] + ((1, "z"),)), dove=2, about=1, word="z", asleep=[2])
        self.does("lay", None, (TRIO[0], TRIO[1], TRIO[2] + ((1, "z"),)), dove=2, about=1, word="z", asleep=[0, 1])
        self.does("lay", None, (TRIO[0], TRIO[1], TRIO[2] + ((1, "z"),)), dove=2, about=1, word="z", asleep=[0, 1, 2])
        self.refuses(NoDove, {"dove": 3}, "lay", dove=3, about=-1, word="a")
        self.refuses(NoDove, {"dove": -1}, "lay", dove=-1, about=3, word="a")
        self.refuses(NoDove, {"dove": 5}, "lay", dove=0, about=5, word="a")
        self.refuses(NoDove, {"dove": 5}, "lay", dove=5, about=0, word="a")
        self.refuses(NoDove, {"dove": 5}, "lay", dove=5, about=5, word="a")
        for dove in range(3):
            self.refuses(Own, {"dove": dove}, "lay", dove=dove, about=dove, word="a")
            self.refuses(Own, {"dove": dove}, "lay", dove=dove, about=dove, word="a", asleep=[dove])

    def test_sleep_and_wake(self):
        self.does("sleep", None, TRIO, dove=1, slept=(1,))
        self.does("sleep", None, TRIO, dove=1, asleep=[0, 2], slept=(0, 1, 2))
        self.does("sleep", None, TRIO, dove=0, asleep=[2], slept=(0, 2))
        self.does("wake", None, TRIO, dove=1, asleep=[1], slept=())
        self.does("wake", None, TRIO, dove=1, asleep=[0, 1, 2], slept=(0, 2))
        for dove in (3, -1, HUGE, -HUGE):
            for asleep in ([], [0, 1, 2]):
                self.refuses(NoDove, {"dove": dove}, "sleep", dove=dove, asleep=asleep)
                self.refuses(NoDove, {"dove": dove}, "wake", dove=dove, asleep=asleep)
        self.refuses(Asleep, {"dove": 1}, "sleep", dove=1, asleep=[1, 2])
        self.refuses(Awake, {"dove": 0}, "wake", dove=0, asleep=[1, 2])

    def test_undo(self):
        self.told((False, TRIO, (), 0), deed_of("undo"), standing=TRIO, asleep=())
        for deed in (("peck", 0), ("go", (0, 0)), ("go", ()), ("peace", 1, 0), ("lay", 0, 1, "a"), ("sleep", 0)):
            cote = Cote(TRIO)
            do(cote, deed)
            self.assertEqual(cote.deeds(), 1)
            self.assertIs(cote.undo(), True)
            self.same((cote.standing(), cote.asleep(), cote.deeds()), (TRIO, (), 0))
            self.assertIs(cote.undo(), False)
            self.same(cote.log(), [deed, ("undo",)])
        cote = Cote(TRIO, asleep=[1])
        cote.wake(1)
        self.assertIs(cote.undo(), True)
        self.same(cote.asleep(), (1,))


class Asks(Promises, unittest.TestCase):

    def test_standing_and_asleep(self):
        for standing in random_standings("cotes", 15) + [((),), TRIO]:
            asleep = random_asleep(random.Random(len(standing)), standing)
            self.told(standing, ask_of("standing"), standing=standing, asleep=asleep)
            self.told(tuple(asleep), ask_of("asleep"), standing=standing, asleep=asleep)
            self.told(0, ask_of("deeds"), standing=standing, asleep=asleep)
            self.told([], ask_of("log"), standing=standing, asleep=asleep)

    def test_who_sleeps_is_handed_in_by_name_alone(self):
        self.assertRaises(TypeError, Cote, TRIO, [0])
        self.assertRaises(TypeError, Cote)
        self.same(Cote(standing=TRIO, asleep=[0]).asleep(), (0,))

    def test_told(self):
        kinds = []
        for one, other, asleep in random_pairs("told", 60):
            wanted = between(one, other, asleep=asleep)
            kinds.append(wanted[0])
            for guise in guises(other):
                cote = Cote(one, asleep=asleep)
                first = cote.told(guise)
                self.same(first, wanted)
                for part in lists_in(first):
                    part.append("spoilt")
                self.same(cote.told(standing=guise), wanted)
        for kind in ("row", "line", "heap"):
            self.assertIn(kind, kinds)

    def test_told_by_who_sleeps_now_and_how_it_stands_now(self):
        cote = Cote(TRIO)
        other = (((2, "x"),), TRIO[1] + ((0, "a"),), TRIO[2])
        self.same(cote.told(other), between(TRIO, other))
        cote.sleep(0)
        self.same(cote.told(other), ("heap", 0, 1))
        cote.wake(0)
        cote.peck(0)
        self.same(cote.told(TRIO)[0], "row")
        cote.sleep(1)
        self.same(cote.told(TRIO), ("heap", 1, 2))
        cote.undo()
        cote.undo()
        cote.undo()
        self.same(cote.told(other), ("heap", 0, 1))
        cote.lay(1, 0, "b")
        self.same(cote.told(other), ("line", 0, 1, 1))
        gifts = (((2, "a"), (3, "b")), ((3, "c"), (2, "d")), (), ())
        ringed = ((), (), ((0, "a"), (1, "d")), ((1, "c"), (0, "b")))
        self.same(Cote(gifts, asleep=[2, 3]).told(ringed), ("ring", [(0, 0), (0, 1), (1, 0), (1, 1)]))

    def test_told_is_refused_of_unlike_many_doves(self):
        for other in (TRIO[:2] + ((),) * 2, ((),), ((), ())):
            with self.assertRaises(NotSame) as caught:
                Cote(TRIO, asleep=[1]).told(other)
            self.assertIs(caught.exception.__class__, NotSame)
            self.same(vars(caught.exception), {})

    def test_len(self):
        for standing in random_standings("len", 20):
            many = sum(len(heap) for heap in standing)
            self.same(len(Cote(standing)), many)
        cote = Cote(TRIO)
        self.same(len(cote), 5)
        cote.lay(0, 1, "a")
        self.same(len(cote), 6)
        cote.undo()
        cote.peace(0, 1)
        self.same(len(cote), 3)
        cote.peck(2)
        self.same(len(cote), 3)

    def test_repr(self):
        self.same(repr(Cote(TRIO)), "Cote(3 doves, 5 grudges)")
        self.same(repr(Cote(((),))), "Cote(1 doves, 0 grudges)")
        self.same(repr(Cote((((1, "a"),), ()), asleep=[0])), "Cote(2 doves, 1 grudges)")
        cote = Cote(TRIO)
        cote.peace(0, 1)
        self.same(repr(cote), "Cote(3 doves, 3 grudges)")
        self.same(str(cote), "Cote(3 doves, 3 grudges)")

    def test_equal(self):
        for guise in guises(TRIO):
            self.assertTrue(Cote(TRIO) == Cote(guise))
            self.assertFalse(Cote(TRIO) != Cote(guise))
            self.assertTrue(Cote(TRIO, asleep=[0, 1]) == Cote(guise, asleep=(0, 1)))
        # Of other deeds, and undone ones too, but now the same.
        one, other = Cote(TRIO), Cote(TRIO)
        one.peck(0)
        self.assertFalse(one == other)
        self.assertTrue(one != other)
        one.peck(1)
        self.assertTrue(one == other)
        other.sleep(2)
        self.assertFalse(one == other)
        one.sleep(2)
        self.assertTrue(one == other)
        one.undo()
        self.assertFalse(one == other)
        self.assertFalse(Cote(TRIO) == Cote(TRIO + ((),)))
        self.assertFalse(Cote(TRIO, asleep=[0]) == Cote(TRIO, asleep=[1]))

    def test_equal_to_nothing_else(self):
        for thing in (TRIO, (TRIO, ()), None, 0, 5, True, "Cote(3 doves, 5 grudges)", [], [TRIO], Cote):
            self.assertIs(Cote(TRIO) == thing, False)
            self.assertIs(thing == Cote(TRIO), False)
            self.assertIs(Cote(TRIO) != thing, True)

    def test_log_is_as_it_was_handed(self):
        cote = Cote(TRIO)
        cote.go([0, 0])
        cote.go(row=(2,))
        cote.undo()
        cote.undo()
        cote.peace(other=0, one=1)
        cote.undo()
        cote.undo()
        cote.lay(word="new", about=1, dove=2)
        cote.sleep(dove=0)
        cote.wake(dove=0)
        cote.peck(dove=0)
        for refused in (("peck", 9), ("wake", 0), ("lay", 0, 0, "a"), ("peace", 0, 2), ("go", (0, 9))):
            self.assertRaises((LookupError, RuntimeError, ValueError), do, cote, refused)
        wanted = [("go", (0, 0)), ("go", (2,)), ("undo",), ("undo",), ("peace", 1, 0), ("undo",),
                  ("lay", 2, 1, "new"), ("sleep", 0), ("wake", 0), ("peck", 0)]
        self.same(cote.log(), wanted)
        self.same(cote.deeds(), 4)
        told = cote.log()
        told.append("spoilt")
        told[0] = "spoilt"
        self.same(cote.log(), wanted)

    def test_as_of_refused(self):
        cote = Cote(TRIO)
        cote.peck(0)
        cote.peck(0)
        cote.undo()
        for many in (2, 3, HUGE, -1, -2, -HUGE):
            with self.assertRaises(NoDeed) as caught:
                cote.as_of(many)
            self.assertIs(caught.exception.__class__, NoDeed)
            self.same(vars(caught.exception), {"many": many})
        self.refused(NoDeed, {"many": 1}, ask_of("as_of"), standing=TRIO, asleep=[0], many=1)
        self.same(cote.log(), [("peck", 0), ("peck", 0), ("undo",)])


class ManyDeeds(Promises, unittest.TestCase):

    def asked(self, cote, model):
        """All asks, against what is told by hand and by a cote made anew."""
        standing, asleep = model.behind(len(model.stand))
        anew = made_anew(model)
        for one in (cote, cote.twin(), anew):
            self.same(one.standing(), standing)
            self.same(one.asleep(), asleep)
            self.same(one.deeds(), len(model.stand))
            self.same(len(one), sum(len(heap) for heap in standing))
            self.same(repr(one), f"Cote({len(standing)} doves, {sum(len(heap) for heap in standing)} grudges)")
            self.assertTrue(one == anew)
            self.same(one.told(model.began[0]), anew.told(model.began[0]))
        self.same(cote.log(), model.done)
        self.same(anew.log(), model.stand)
        self.same(cote.twin().log(), model.stand)

    def early(self, cote, model, many):
        """A cote as of many deeds, which can be undone there; it and this one don't change each other."""
        before = (cote.standing(), cote.asleep(), cote.log(), cote.deeds())
        early = cote.as_of(many)
        standing, asleep = model.behind(many)
        self.assertIs(early.__class__, Cote)
        self.same((early.standing(), early.asleep(), early.deeds()), (standing, asleep, many))
        self.same(early.log(), model.stand[:many])
        early.lay(0, 1, "more")
        self.same(early.log(), model.stand[:many] + [("lay", 0, 1, "more")])
        for left in range(many, -1, -1):
            self.assertIs(early.undo(), True)
            if left:
                self.same((early.standing(), early.asleep()), model.behind(left))
        self.assertIs(early.undo(), False)
        self.same((early.standing(), early.asleep()), model.began)
        self.same((cote.standing(), cote.asleep(), cote.log(), cote.deeds()), before)

    def walk(self, chance, many, doves=None):
        standing = random_alike(chance, doves or chance.randint(2, 6), chance.randint(0, 12))
        asleep = random_asleep(chance, standing) if chance.random() < 0.5 else []
        cote, model = Cote(standing, asleep=asleep), CoteByHand(standing, asleep)
        refusals = []
        while len(model.done) < many:
            deed = random_deed(chance, *model.behind(len(model.stand)))
            refusal, told = model.do(deed)
            if refusal is None:
                self.same(do(cote, deed), told)
            else:
                with self.assertRaises(refusal[0]) as caught:
                    do(cote, deed)
                self.assertIs(caught.exception.__class__, refusal[0])
                self.same(vars(caught.exception), refusal[1])
                refusals.append(refusal[0])
            self.same((cote.standing(), cote.asleep()), model.behind(len(model.stand)))
        self.asked(cote, model)
        return cote, model, refusals

    def test_any_deeds(self):
        chance = random.Random("any deeds")
        refusals = []
        words = []
        for _ in range(60):
            cote, model, more = self.walk(chance, chance.randint(0, 40))
            refusals += more
            words += [deed[0] for deed in cote.log()]
            self.early(cote, model, chance.randint(0, cote.deeds()))
            self.early(cote, model, cote.deeds())
        for kind in (NoDove, Asleep, Awake, Bare, NoPeace, Own):
            self.assertGreater(refusals.count(kind), 8, kind)
        for word in ("peck", "go", "peace", "lay", "sleep", "wake", "undo"):
            self.assertGreater(words.count(word), 30, word)

    def test_eighty_deeds_that_stand(self):
        chance = random.Random("eighty deeds")
        standing = random_standing(chance, 8, 24)
        cote, model = Cote(standing), CoteByHand(standing, [])
        for _ in range(80):
            deed = ("peck", chance.choice([dove for dove, heap in enumerate(cote.standing()) if heap]))
            self.same(do(cote, deed), model.do(deed)[1])
        self.asked(cote, model)
        for many in (0, 1, 40, 79, 80):
            self.early(cote, model, many)
        for _ in range(80):
            self.assertIs(cote.undo(), True)
        self.assertIs(cote.undo(), False)
        self.same(cote.standing(), standing)
        self.same(len(cote.log()), 160)

    def test_rows_told_may_be_gone_whatever_their_length(self):
        chance = random.Random("rows told")
        for _ in range(10):
            standing = random_standing(chance, 8, 24)
            other = shuffled(chance, wander(chance, standing, [], 100)[1][-1])
            cote = Cote(standing)
            row = cote.told(other)[1]
            self.same(len(cote.go(row)), len(row))
            self.same(cote.standing(), other)
            self.assertIs(cote.undo(), True)
            self.same(cote.standing(), standing)

    def test_a_refused_row_is_not_begun(self):
        chance = random.Random("refused rows")
        for _ in range(40):
            cote, model, _ = self.walk(chance, 10)
            row = wander(chance, cote.standing(), cote.asleep(), 20)[0]
            before = (cote.standing(), cote.asleep(), cote.deeds(), cote.log())
            self.assertRaises(NoDove, cote.go, row + [99])
            self.same((cote.standing(), cote.asleep(), cote.deeds(), cote.log()), before)

    def test_one_changes_no_other(self):
        chance = random.Random("no other")
        for _ in range(20):
            cote, model, _ = self.walk(chance, 20)
            twin = cote.twin()
            again = cote.as_of(cote.deeds())
            before = (cote.standing(), cote.asleep(), cote.deeds(), model.stand[:])
            cote.lay(0, 1, "a")
            cote.undo()
            cote.undo()
            cote.lay(1, 0, "b")
            for one in (twin, again):
                self.same((one.standing(), one.asleep(), one.deeds(), one.log()), before)
            twin.go([])
            twin.lay(1, 0, "c")
            self.same((again.standing(), again.asleep(), again.deeds(), again.log()), before)

    def test_what_is_handed_in_stays_and_is_not_kept(self):
        for guise in range(4):
            standing, asleep, row = (guises(thing)[guise] for thing in (TRIO, [0], [2, 1]))
            before = copy.deepcopy((standing, asleep, row))
            cote = Cote(standing, asleep=asleep)
            cote.go(row)
            cote.wake(0)
            cote.lay(0, 1, "a")
            told = (cote.standing(), cote.asleep(), cote.log())
            self.same((standing, asleep, row), before)
            for part in lists_in(standing) + lists_in(asleep) + lists_in(row):
                part.clear()
            self.same((cote.standing(), cote.asleep(), cote.log()), told)
            self.same(told[2], [("go", (2, 1)), ("wake", 0), ("lay", 0, 1, "a")])
            self.same(cote.as_of(0).standing(), TRIO)
            self.same(cote.as_of(0).asleep(), (0,))
            self.same(cote.as_of(1).log(), [("go", (2, 1))])

    def test_told_lists_changed_by_the_asker(self):
        cote = Cote(TRIO)
        told = cote.go([0, 0])
        told.clear()
        log = cote.log()
        log.clear()
        self.same(cote.log(), [("go", (0, 0))])
        self.assertIsNot(cote.log(), cote.log())
        self.same(cote.as_of(1).log(), [("go", (0, 0))])
        twin = cote.twin()
        twin.log().clear()
        self.same(twin.log(), [("go", (0, 0))])


if __name__ == "__main__":
    unittest.main()
