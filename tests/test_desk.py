"""run: what each row is answered, and which rows are not so written."""

import random
import re
import unittest

from grudgecote.between import between
from grudgecote.desk import run
from grudgecote.errors import BadRow
from grudgecote.texts import standing_text

from tests.helper import (
    CoteByHand, Promises, all_led, line_by_hand, lines_left, may_by_hand, random_alike, random_deed, random_standing,
    shuffled, texts_like, tinkered, wander)

TRIO = (((2, "x"), (1, "a")), ((2, "b"), (0, "a")), ((0, "x"),))
FIRST = "cote 2:x 1:a | 2:b 0:a | 0:x"
NUMBER = "(?:0|[1-9][0-9]?)"
WRITTEN = re.compile(f"(?:peck|sleep|wake) {NUMBER}|(?:peace|line) ({NUMBER}) (?!\\1$){NUMBER}"
                     f"|lay {NUMBER} {NUMBER} [a-z]{{1,6}}|undo|standing|asleep|may|left|count")


def listed(things, gap=" "):
    return gap.join(things) if things else "-"


def count_by_hand(standing):
    if sum(len(heap) for heap in standing) > 10:
        return "refused TooMany"
    return str(len(all_led(standing)))


def to_by_hand(standing, other, asleep):
    told = between(standing, other, asleep=asleep)
    if told[0] in ("row", "ring"):
        return told[0]
    return " ".join(str(part) for part in told)


def ask_by_hand(model, ask):
    """What an ask is answered; ask as a tuple of the word and what stands behind it."""
    word, *handed = ask
    standing, asleep = model.behind(len(model.stand))
    for dove in handed if word == "line" else []:
        if dove >= len(standing):
            return "refused NoDove"
    if word == "line":
        one, other = handed
        words = line_by_hand(standing, *sorted(handed))
        return listed(words if one < other else words[::-1])
    if word == "to":
        return to_by_hand(standing, handed[0], asleep)
    if word == "left":
        return listed([f"{one}+{other}:{' '.join(words)}" for one, other, words in lines_left(standing)], " ; ")
    if word == "may":
        return listed([f"{one}+{other}" for one, other in may_by_hand(standing)])
    if word == "count":
        return count_by_hand(standing)
    return standing_text(standing) if word == "standing" else listed([str(dove) for dove in asleep])


def answer_by_hand(model, row):
    """What a row is answered, and the model behind it."""
    if row[0] in ("peck", "peace", "lay", "sleep", "wake", "undo"):
        refusal, told = model.do(row)
        if refusal is not None:
            return f"refused {refusal[0].__name__}"
        if row[0] == "undo":
            return "yes" if told else "no"
        return f"{told[0]} {told[1]}" if row[0] == "peck" else "done"
    return ask_by_hand(model, row)


def row_text(row):
    return " ".join(standing_text(part) if isinstance(part, tuple) else str(part) for part in row)


def random_row(chance, model):
    """A row that is so written, as a tuple."""
    standing, asleep = model.behind(len(model.stand))
    doves = len(standing)
    if chance.random() < 0.6:
        while True:
            deed = random_deed(chance, standing, asleep)
            # Below 0 there is no number that may be written.
            if deed[0] != "go" and all(part.__class__ is str or part >= 0 for part in deed[1:]):
                return deed
    word = chance.choice(["standing", "asleep", "line", "may", "left", "count", "to", "to", "to"])
    if word == "line":
        return (word, *chance.sample(range(doves + (chance.random() < 0.2)), 2))
    if word == "to":
        other = wander(chance, standing, chance.choice([asleep, ()]), chance.randint(0, 20))[1][-1]
        kind = chance.choice(["led", "led", "tinkered", "shuffled"])
        return (word, tinkered(chance, other) if kind == "tinkered" else
                shuffled(chance, other) if kind == "shuffled" else other)
    return (word,)


class Rows(Promises):

    def answers(self, rows, *answers, first=FIRST):
        """The rows, in one text, have these answers."""
        self.told(list(answers), run, text="\n".join([first] + list(rows)))

    def bad(self, text, number):
        self.refused(BadRow, {"number": number}, run, text=text)


class Desk(Rows, unittest.TestCase):

    def test_the_first_row_alone(self):
        for first in (FIRST, "cote -", "cote - | -", "cote - | 0:abcdef"):
            self.told([], run, text=first)

    def test_peck(self):
        self.answers(["peck 0", "peck 0", "peck 2", "peck 1"], "1 a", "2 x", "0 x", "0 a")
        self.answers(["peck 0", "peck 0", "peck 0"], "1 a", "2 x", "refused Bare")
        self.answers(["peck 3", "peck 99", "peck 10"], *["refused NoDove"] * 3)
        self.answers(["sleep 0", "peck 0", "peck 1"], "done", "refused Asleep", "0 a")

    def test_peace(self):
        self.answers(["peace 0 1", "peace 2 0", "standing"], "done", "done", "- | 2:b | -")
        self.answers(["peace 1 0", "peace 1 0", "peace 0 1"], "done", "refused NoPeace", "refused NoPeace")
        self.answers(["peace 0 3", "peace 99 1", "peace 3 4"], *["refused NoDove"] * 3)
        self.answers(["sleep 1", "peace 0 1", "peace 1 0", "peace 1 9"],
                     "done", "refused Asleep", "refused Asleep", "refused NoDove")

    def test_lay(self):
        self.answers(["lay 2 1 abcdef", "lay 0 1 z", "standing"],
                     "done", "done", "2:x 1:a 1:z | 2:b 0:a | 0:x 1:abcdef")
        self.answers(["lay 3 0 a", "lay 0 3 a", "lay 0 0 a", "lay 3 3 a", "lay 99 99 a", "standing"], "refused NoDove",
                     "refused NoDove", "refused Own", "refused NoDove", "refused NoDove", FIRST[5:])
        self.answers(["sleep 2", "lay 2 1 a", "lay 1 2 a"], "done", "done", "done")

    def test_sleep_and_wake(self):
        self.answers(["asleep", "sleep 2", "asleep", "sleep 0", "asleep", "sleep 2", "wake 2", "asleep", "wake 2"],
                     "-", "done", "2", "done", "0 2", "refused Asleep", "done", "0", "refused Awake")
        self.answers(["sleep 3", "wake 3", "wake 0"], "refused NoDove", "refused NoDove", "refused Awake")

    def test_undo(self):
        self.answers(["undo", "peck 0", "undo", "undo", "standing"], "no", "1 a", "yes", "no", FIRST[5:])
        self.answers(["sleep 1", "lay 0 1 a", "peck 9", "undo", "undo", "undo", "asleep"],
                     "done", "done", "refused NoDove", "yes", "yes", "no", "-")

    def test_standing(self):
        self.answers(["standing"], FIRST[5:])
        self.answers(["standing"], "-", first="cote -")
        self.answers(["peck 1", "standing"], "0 z", "1:z | -", first="cote - | 0:z")

    def test_line(self):
        self.answers(["line 0 1", "line 1 0", "line 0 2", "line 2 0", "line 1 2", "line 2 1"],
                     "a a", "a a", "x x", "x x", "b", "b")
        self.answers(["line 0 1", "line 1 0"], "a b c", "c b a", first="cote 1:a | 0:c 0:b")
        self.answers(["line 0 1"], "-", first="cote - | -")
        self.answers(["line 0 3", "line 3 0", "line 7 8"], *["refused NoDove"] * 3)

    def test_may(self):
        self.answers(["may"], "0+1")
        self.answers(["peck 0", "may", "peck 0", "may"], "1 a", "0+2", "2 x", "-")
        self.answers(["may"], "0+3 1+2", first="cote 3:a | 2:c | 1:c | 0:a")
        # Whoever sleeps.
        self.answers(["sleep 0", "sleep 1", "may"], "done", "done", "0+1")

    def test_left(self):
        self.answers(["left"], "1+2:b")
        self.answers(["left"], "-", first="cote 1:a | 0:a")
        self.answers(["left", "sleep 0", "left"], "0+1:a c ; 0+2:d", "done", "0+1:a c ; 0+2:d",
                     first="cote 1:a 2:d 1:b | 0:c 0:b | -")

    def test_count(self):
        self.answers(["count"], str(len(all_led(TRIO))))
        self.answers(["sleep 0", "sleep 1", "sleep 2", "count"], "done", "done", "done", str(len(all_led(TRIO))))
        self.answers(["count", "lay 0 1 a", "count", "lay 0 1 a", "count"],
                     "10", "done", "11", "done", "refused TooMany", first="cote " + " ".join(["1:a"] * 9) + " | -")
        self.answers(["count"], "1", first="cote -")

    def test_to(self):
        self.answers(["to " + FIRST[5:], "to 2:x | 2:b 0:a 0:a | 0:x"], "row", "row")
        self.answers(["to - | - | -", "to 2:x 1:a | 2:b 0:a | -", "to 2:x 1:a | 0:a | 0:x"],
                     "line 0 1 0", "line 0 2 1", "line 1 2 0")
        self.answers(["sleep 0", "to 2:x | 2:b 0:a 0:a | 0:x", "to 2:x 1:a | 2:b 0:a | 0:x", "to - | - | -"],
                     "done", "heap 0 1", "row", "line 0 1 0")
        self.answers(["to - | - | 0:a 1:d | 1:c 0:b", "sleep 2", "sleep 3", "to - | - | 0:a 1:d | 1:c 0:b",
                      "to - | - | 1:d 0:a | 1:c 0:b", "to - | - | 0:a 1:d | 0:b 1:c"],
                     "row", "done", "done", "ring", "row", "row", first="cote 2:a 3:b | 3:c 2:d | - | -")
        self.answers(["to -"], "row", first="cote -")

    def test_what_was_refused_changes_nothing(self):
        rows = ["peck 9", "peace 0 2", "lay 0 0 a", "sleep 7", "wake 0", "standing", "asleep", "undo"]
        self.answers(rows, "refused NoDove", "refused NoPeace", "refused Own", "refused NoDove", "refused Awake",
                     FIRST[5:], "-", "no")

    def test_of_many_doves(self):
        first = "cote " + " | ".join(["11:a"] + ["-"] * 10 + ["0:a 10:b"])
        self.answers(["peck 11", "peace 0 11", "sleep 10", "sleep 9", "asleep", "line 11 10", "left", "peck 12"],
                     "10 b", "done", "done", "done", "9 10", "b", "10+11:b", "refused NoDove", first=first)

    def test_any_rows(self):
        chance = random.Random("any rows")
        answers = []
        for _ in range(120):
            standing = random_alike(chance, chance.randint(2, 5), chance.randint(0, 7))
            model = CoteByHand(standing, [])
            rows, wanted = ["cote " + standing_text(standing)], []
            for _ in range(chance.randint(0, 40)):
                row = random_row(chance, model)
                rows.append(row_text(row))
                wanted.append(answer_by_hand(model, row))
            self.told(wanted, run, text="\n".join(rows))
            answers += wanted
        for word in ("NoDove", "Asleep", "Awake", "Bare", "NoPeace", "Own"):
            self.assertGreater(answers.count("refused " + word), 10, word)
        for word in ("yes", "no", "done", "-", "row"):
            self.assertGreater(answers.count(word), 10, word)
        for word in ("line ", "heap "):
            self.assertGreater(len([told for told in answers if told.startswith(word)]), 10, word)

    def test_sixty_rows(self):
        chance = random.Random("sixty rows")
        for _ in range(10):
            model = CoteByHand(random_standing(chance, 8, 20), [])
            rows, wanted = ["cote " + standing_text(model.began[0])], []
            while len(rows) < 60:
                row = random_row(chance, model)
                if row != ("count",):
                    rows.append(row_text(row))
                    wanted.append(answer_by_hand(model, row))
            self.same(run("\n".join(rows)), wanted)


class BadRows(Rows, unittest.TestCase):

    def test_the_bare_text(self):
        self.bad("", 0)
        self.bad("\n", 0)
        self.bad("\n" + FIRST, 0)

    def test_a_first_row_that_is_none(self):
        for first in ("cote", "cote ", " ", "Cote -", "cote  -", " cote -", "cote - ", "cote\t-", "cote-", "-",
                      FIRST[5:], "cote 1:a", "cote 0:a", "cote 0:a | -", "cote 2:a | -", "cote 1:A | -",
                      "cote 1:abcdefg | -",
                      "cote 1:a  | -", "cote 01:a | -", "cote -|-", "cote - | ", "cote 1:a |  -", "cote cote -",
                      "to -", "standing", "peck 0", "undo", "count", "cote - | - |", "cotes -", "cote +1:a | -"):
            self.bad(first, 0)
            self.bad(first + "\nstanding", 0)
            self.bad(first + "\nnone", 0)

    def not_written(self, *rows):
        for row in rows:
            self.bad(FIRST + "\n" + row, 1)
            self.bad(FIRST + "\npeck 0\nundo\n" + row + "\nstanding", 3)
            self.bad(FIRST + "\npeck 9\n" + row + "\n" + row, 2)

    def test_bare_rows_and_blanks(self):
        self.not_written("", " ", "  ", " undo", "undo ", "undo  ", "  undo", "peck  0", "peck 0 ", " peck 0",
                         "peace 0  1", "peace  0 1", "peace 0 1 ", "lay 0 1  a", "lay 0 1 a ", "standing ",
                         " standing", "line 0 1 ", "to  - | - | -", "to - | - | - ", " to - | - | -", "to - |  - | -",
                         "peck\t0", "undo\t", "undo\r", "peck 0\r", "peck\u00a00", "count ", "may ", "left ", "asleep ")
        self.bad(FIRST + "\n", 1)
        self.bad(FIRST + "\nundo\n", 2)
        self.bad(FIRST + "\n\nundo", 1)

    def test_too_few_and_too_many_words(self):
        self.not_written("peck", "peace", "peace 0", "lay", "lay 0", "lay 0 1", "sleep", "wake", "line", "line 0", "to",
                         "peck 0 1", "peace 0 1 2", "lay 0 1 a b", "lay 0 1 2 a", "sleep 0 1", "wake 0 1", "undo 0",
                         "standing 0", "asleep 0", "line 0 1 2", "may 0", "left 0", "count 0", "undo undo", "may -",
                         "peck ", "peace 0 ", "lay 0 1 ", "to ", "line 0 ")

    def test_words_that_are_none(self):
        self.not_written("pecks 0", "Peck 0", "PECK 0", "pec 0", "go 0", "cote -", FIRST, "told -", "log", "deeds",
                         "twin", "as_of 0", "0", "-", "0 peck", "peck0", "undo0", "row", "done", "yes", "len", "repr",
                         "#", "# undo")

    def test_numbers_that_are_none(self):
        for number in ("00", "01", "09", "000", "100", "123", "0100", "-1", "-0", "+1", "1.0", "1_0", "a", "0x1", "1:a",
                       ":", "-", "", "\u0661", "\uff11", "\u00b9", "\u00b2", "\u2460", "1" * 5000, "one", "1,", ",1",
                       "'1'"):
            self.not_written(f"peck {number}", f"sleep {number}", f"wake {number}", f"peace {number} 0",
                             f"peace 0 {number}", f"line {number} 0", f"line 0 {number}", f"lay {number} 0 a",
                             f"lay 0 {number} a")

    def test_lay_of_no_word(self):
        for word in ("A", "aB", "abcdefg", "a1", "1", "a-", "-", "0:a", "\u00e9", "a_b", "a.", "`", "{"):
            self.not_written(f"lay 0 1 {word}", f"lay 9 9 {word}")

    def test_the_same_dove_twice(self):
        for dove in (0, 1, 2, 3, 10, 99):
            self.not_written(f"peace {dove} {dove}", f"line {dove} {dove}")
        self.answers(["lay 1 1 a", "lay 9 9 a"], "refused Own", "refused NoDove")

    def test_to_of_no_text_and_of_other_many_doves(self):
        self.not_written("to", "to -", "to - | -", "to - | - | - | -", "to 1:a | -", "to 1:a | - | - | -",
                         "to 0:a | - | -", "to 3:a | - | -", "to 1:A | - | -", "to - | - |", "to -|-|-", "to - - -",
                         "to 01:a | - | -", "to cote - | - | -", "to " + FIRST)

    def test_any_number_of_two_figures_may_be(self):
        for dove in range(100):
            rows = [f"peck {dove}", "undo", f"sleep {dove}", f"wake {dove}", f"lay {dove} 0 a",
                    f"peace {dove} {(dove + 1) % 100}"]
            told = run("\n".join([FIRST] + rows))
            self.assertEqual(len(told), 6)
            if dove > 2:
                self.same(told, ["refused NoDove", "no"] + ["refused NoDove"] * 4)

    def test_ahead_of_all_answers(self):
        self.bad(FIRST + "\npeck 9\npeck 0 0", 2)
        self.bad(FIRST + "\n" + "undo\n" * 50 + "none\n" + "undo\n" * 5, 51)
        self.bad(FIRST + "\ncount\npeace 1 1\npeace 1 1", 2)
        self.bad("cote 1:a\npeace 1 1", 0)

    def test_one_sign_more_one_less_or_another(self):
        right = ["peck 0", "peace 0 1", "lay 0 1 ab", "sleep 2", "wake 12", "undo", "line 1 0", "may", "standing"]
        found = 0
        for row in right:
            for other in texts_like(row, "019abz -:|A+\t"):
                if WRITTEN.fullmatch(other):
                    found += 1
                    self.assertEqual(len(run(FIRST + "\n" + other)), 1, other)
                else:
                    with self.assertRaises(BadRow, msg=other) as caught:
                        run(FIRST + "\n" + other)
                    self.same(vars(caught.exception), {"number": 1})
        self.assertGreater(found, 60)


if __name__ == "__main__":
    unittest.main()
