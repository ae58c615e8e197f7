"""standing_text and standing_in."""

import random
import re
import unittest

from grudgecote.errors import BadText
from grudgecote.texts import standing_in, standing_text

from tests.helper import Promises, random_standing, random_standings, texts_like

SAMPLE = (((1, "ab"), (2, "c")), (), ((0, "ab"),))
TEXT = "1:ab 2:c | - | 0:ab"
SIGNS = "0123456789abz:|- A+\n\t%"
WRITTEN_GRUDGE = "(?:0|[1-9][0-9]*):[a-z]{1,6}"
WRITTEN_HEAP = f"(?:-|{WRITTEN_GRUDGE}(?: {WRITTEN_GRUDGE})*)"
WRITTEN = f"{WRITTEN_HEAP}(?: \\| {WRITTEN_HEAP})*"


def read_by_hand(text):
    """The standing of a text; None of each other text."""
    if not re.fullmatch(WRITTEN, text):
        return None
    heaps = []
    for heap in text.split("|"):
        heaps.append(tuple((int(about), word) for about, word in re.findall("([0-9]+):([a-z]+)", heap)))
    abouts = [(dove, about) for dove, heap in enumerate(heaps) for about, _ in heap]
    if any(about >= len(heaps) or about == dove for dove, about in abouts):
        return None
    return tuple(heaps)


class Texts(Promises, unittest.TestCase):

    def written(self, standing, text):
        self.told(text, standing_text, standing=standing)
        self.told(standing, standing_in, text=text)

    def bad(self, text):
        self.refused(BadText, {"text": text}, standing_in, text=text)

    def judged(self, text):
        """Whether it is a standing's text, when it is seen to be read and refused so."""
        wanted = read_by_hand(text)
        if wanted is None:
            with self.assertRaises(BadText, msg=text) as caught:
                standing_in(text)
            self.same(vars(caught.exception), {"text": text})
        else:
            self.same(standing_in(text), wanted)
            self.same(standing_text(wanted), text)
        return wanted is not None

    def test_as_the_document_writes_one(self):
        self.written(SAMPLE, TEXT)

    def test_of_one_dove_and_of_bare_heaps(self):
        self.written(((),), "-")
        self.written(((), ()), "- | -")
        for doves in range(1, 60):
            self.same(standing_text(((),) * doves), " | ".join("-" * doves))
            self.same(standing_in(" | ".join("-" * doves)), ((),) * doves)

    def test_of_words_and_grudges_of_all_lengths(self):
        self.written((((1, "a"),), ()), "1:a | -")
        self.written(((), ((0, "abcdef"), (0, "z"), (0, "abcdef"))), "- | 0:abcdef 0:z 0:abcdef")

    def test_of_many_doves(self):
        many = ((),) * 10 + (((9, "a"), (11, "b")), ((10, "c"), (0, "d")))
        self.written(many, "- | " * 10 + "9:a 11:b | 10:c 0:d")
        # Of ten doves a number has one figure, and of eleven it may have two.
        self.bad("10:a" + " | -" * 9)
        self.written((((10, "a"),),) + ((),) * 10, "10:a" + " | -" * 10)
        self.written((((100, "a"),),) + ((),) * 100, "100:a" + " | -" * 100)
        self.bad("100:a" + " | -" * 99)

    def test_noughts_ahead_where_a_number_may_have_several_figures(self):
        self.written((((1, "a"),),) + ((),) * 10, "1:a" + " | -" * 10)
        self.written(((), ((0, "a"),)) + ((),) * 99, "- | 0:a" + " | -" * 99)
        for figures in ("01", "00", "001", "000", "010"):
            for doves in (2, 11, 101):
                self.bad(figures + ":a" + " | -" * (doves - 1))
                self.bad("- | " * (doves - 1) + figures + ":a")

    def test_of_any(self):
        for standing in random_standings("texts", 60):
            text = standing_text(standing)
            self.same(read_by_hand(text), standing)
            self.written(standing, text)

    def test_other_texts(self):
        for text in ("", " ", "  ", "|", " | ", "- |", "| -", "-|-", "- |-", "-| -", "--", "- -", "-  | -", "- |  -",
                     "- | ", " | -", " -", "- ", " - | -", "- | - ", "- || -", "- | | -", "- | - |", "| - | -",
                     "1:a | - ", " 1:a | -", "1:a  | -", "1:a |  -", "1:a  1:b | -", "1:a 1:b  | -", "1:a 1:b|-",
                     "1:a - | -", "- 1:a | -", "1:a | - -", "1:a 1:b | - 0:a", "1:a1:b | -", "1:a,1:b | -",
                     "01:a | -", "1:a | 00:b", "1:a | -0:b", "+1:a | -", "-1:a | -", "1 :a | -", "1: a | -", "1:a: | -",
                     ":a | -", "1: | -", ":1:a | -", "1::a | -", "1a | -", "1 a | -", "1 | -", "a:1 | -", "1.0:a | -",
                     "1_0:a | -", "0x1:a | -", "1e0:a | -", "one:a | -",
                     "0:a", "1:a", "0:a | -", "- | 1:a", "2:a | -", "- | 2:a", "9:a | -", "10:a | -", "99:a | -",
                     "1:abcdefg | -", "1:A | -", "1:aB | -", "1:a1 | -", "1:1 | -", "1:a-b | -", "1:- | -",
                     "1:a | -\n", "\n1:a | -", "1:a\n| -", "1:a\t| -", "1:a | -\t", "1:a\u00a01:b | -", "1:a | \u2212",
                     "\u0661:a | -", "\uff11:a | -", "\u00b9:a | -", "\u2460:a | -", "1:\u00e9 | -", "1:\uff41 | -",
                     "1:a \u2502 -", "1:a | -\0", "()", "((),)", "None", "cote -",
                     "9" * 5000 + ":a | -", "1:" + "a" * 5000, "1:a ; -", "1:a / -", "1=a | -", "1:a + -", "1:`a | -",
                     "1:{ | -"):
            self.bad(text)

    def test_one_sign_more_one_less_or_another(self):
        chance = random.Random("one sign")
        found = 0
        for text in (TEXT, "- | 0:a", "-", standing_text(random_standing(chance, 8, 24))):
            found += sum(self.judged(other) for other in texts_like(text, SIGNS))
        self.assertGreater(found, 100)

    def test_any_texts(self):
        chance = random.Random("any texts")
        parts = ["-", " | ", " ", "0:a", "1:b", "2:ab", "|", "1", ":", "3:c", "00", "a"]
        found = 0
        for _ in range(5000):
            found += self.judged("".join(chance.choice(parts) for _ in range(chance.randint(0, 9))))
        self.assertGreater(found, 30)


if __name__ == "__main__":
    unittest.main()
