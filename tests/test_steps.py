"""Texts of step words [17.1]."""

import unittest

from machines_made import signed
from support import check_own_kinds, check_refused, expect, numbers_but, odd_but, random_source
from truebeat.errors import InvalidNumber, ParseError
from truebeat.plain.shapes import word_of
from truebeat.text import steps as module
from truebeat.text.steps import read_step, write_step

NAMES = "add sub and or xor less left right plus set load store same under jump".split()
SPECIAL = "end put back allow times part rest".split()
# How many bits the numbers behind each name have, and whether the last one is signed.
FIELDS = {**{name: ((3, 3, 6), False) for name in NAMES[:8]}, **{name: ((3, 3, 6), True) for name in NAMES[8:]},
          "set": ((3, 9), True), **{name: ((3, 3), False) for name in SPECIAL}}


def text_by_words(word):
    op, a, b, c = word >> 12, word >> 9 & 7, word >> 6 & 7, word & 63
    if op < 8:
        return f"{NAMES[op]} {a} {b} {c}"
    if op == 9:
        return f"set {a} {signed(9, word & 511)}"
    if op < 15:
        return f"{NAMES[op]} {a} {b} {signed(6, c)}"
    return f"{SPECIAL[c]} {a} {b}" if c < 7 else f"word {word}"


EVERY = {text_by_words(word): word for word in range(65536)}


def spot_by_words(pieces):
    """The spot of an error in pieces, none of them empty: by the texts that there are, `None` if there is none."""
    for index in range(len(pieces)):
        if tuple(pieces[:index + 1]) not in BEGINNINGS:
            return index
    return None if " ".join(pieces) in EVERY else len(pieces)


BEGINNINGS = {tuple(text.split(" ")[:many]) for text in EVERY for many in (1, 2, 3, 4)}


class StepsTest(unittest.TestCase):
    def test_constants(self):
        self.assertEqual((module.NAMES, module.SPECIAL), (tuple(NAMES), tuple(SPECIAL)))

    def test_example(self):
        self.assertEqual(
            [write_step(37887), write_step(0), write_step(61440), write_step(65535), read_step("under 0 1 -2") == word_of(13, 0, 1, 62)],
            ['set 1 -1', 'add 0 0 0', 'end 0 0', 'word 65535', True])

    def test_all_words(self):
        self.assertEqual(len(EVERY), 65536)
        for text, word in EVERY.items():
            self.assertEqual(write_step(word), text)
            self.assertEqual(read_step(text), word)
        check_own_kinds(self, (write_step(37887), read_step("set 1 -1")))

    def test_both_ends_of_numbers(self):
        for name, (bits, is_signed) in FIELDS.items():
            bounds = [(0, 2 ** many - 1) for many in bits]
            if is_signed:
                bounds[-1] = (-2 ** (bits[-1] - 1), 2 ** (bits[-1] - 1) - 1)
            for index, (least, most) in enumerate(bounds, 1):
                for number in (least, most):
                    pieces = [name] + ["0"] * len(bounds)
                    pieces[index] = str(number)
                    self.assertIn(read_step(" ".join(pieces)), EVERY.values())
                for number in (least - 1, most + 1, 10 ** 70, -10 ** 70):
                    pieces[index] = str(number)
                    expect(self, ParseError, index, read_step, " ".join(pieces))
                    expect(self, ParseError, index, read_step, " ".join(pieces[:index + 1]))
                    expect(self, ParseError, index, read_step, " ".join([*pieces, "7", "x"]))

    def test_words_with_another_name(self):
        for word in range(0, 65536, 7):
            if EVERY.get(f"word {word}") is None:
                expect(self, ParseError, 1, read_step, f"word {word}")
        for text, spot in (("word", 1), ("word 65536", 1), ("word -1", 1), ("word 65535 0", 2), ("word 0 0", 1), ("word 61446", 1),
                           ("word x", 1), ("word 065535", 1)):
            expect(self, ParseError, spot, read_step, text)
        self.assertEqual(read_step("word 61447"), 61447)

    def test_drawn_texts(self):
        source = random_source(1)
        pieces = [*NAMES, *SPECIAL, "word", "0", "7", "8", "63", "64", "-32", "-33", "255", "-256", "00", "01", "+1", "-0", "-01", "1_0",
                  "x", "Add", "65535", "61440", "0x1", "1.", "--1", "-", "1e0", "9" * 70, "\t1", "1\n"]
        wrong = 0
        for _ in range(20000):
            row = [source.choice(NAMES + SPECIAL + ["word"] if source.randrange(9) else pieces)]
            row += [source.choice(pieces[23:] if source.randrange(3) else ["0", "7", "1"]) for _ in range(source.randrange(5))]
            spot = spot_by_words(row)
            wrong += spot is not None
            if spot is None:
                self.assertEqual(read_step(" ".join(row)), EVERY[" ".join(row)])
            else:
                expect(self, ParseError, spot, read_step, " ".join(row))
        self.assertTrue(10000 < wrong < 19900, wrong)

    def test_blanks_and_pieces(self):
        for text in ("", " ", "  ", " add 0 0 0", "add 0 0 0 ", "add  0 0 0", "add 0 0  0", "add 9  0", "add 0 0 0 0 ", "ADD 0 0 0", "add,0,0,0",
                     "add\t0 0 0", "add\n", "0 0 0", "-", "nothing", "set 1 -1 "):
            expect(self, ParseError, 0, read_step, text)
        for text, spot in (("add", 1), ("add 0", 2), ("add 0 0", 3), ("add 0 0 0 0", 4), ("add 0 0 0\n", 3), ("set", 1), ("set 1", 2),
                           ("set 1 1 1", 3), ("end", 1), ("end 0", 2), ("end 0 0 0", 3), ("plus 0 0 +1", 3), ("plus 0 0 -0", 3),
                           ("plus 0 0 01", 3), ("plus 8 x y", 1), ("plus 0 x y", 2), ("add 0 0 " + "9" * 19990, 3), ("add 0 0 -1", 3)):
            expect(self, ParseError, spot, read_step, text)
        expect(self, ParseError, 3, read_step, "add 0 0 \u0661")
        expect(self, ParseError, 3, read_step, "add 0 0 \u00b2")

    def test_errors(self):
        check_refused(self, write_step, (0,), [(0, InvalidNumber, numbers_but(0, 65535))])
        texts = [value for value in odd_but() if isinstance(value, str)]
        for value in odd_but(*texts):
            expect(self, ParseError, None, read_step, value)
        for text in texts:
            expect(self, ParseError, 0, read_step, text)


if __name__ == "__main__":
    unittest.main()
