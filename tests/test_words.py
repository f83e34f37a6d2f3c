"""Words [0.1] to [0.7], [1.1] to [1.7]."""

import unittest

from support import check_judge, check_own_kinds, check_refused, expect, numbers_but, odd_but, random_source
from truebeat.base import words
from truebeat.base.words import (
    added, bits_of_word, carries, cut, divided, is_below, is_under, is_word, lengthened, lessened, moved_left,
    moved_right, multiplied, put_together, signed, widened, word_of_bits, wrapped)
from truebeat.errors import InvalidNumber, InvalidOperation, Refused, TooMany

WIDTHS = numbers_but(1, 32)


def pairs(width):
    """All pairs of words of a small width, and some of a great one."""
    if width < 5:
        return [(one, other) for one in range(1 << width) for other in range(1 << width)]
    source = random_source(width)
    edges = [0, 1, (1 << width) - 1, (1 << width - 1) - 1, 1 << width - 1]
    some = edges + [source.randrange(1 << width) for _ in range(20)]
    return [(one, other) for one in some for other in some]


SIZES = (1, 2, 3, 4, 8, 31, 32)


class WordsTest(unittest.TestCase):
    def test_the_example(self):
        self.assertEqual(
            [bits_of_word(4, 6), word_of_bits((0, 1, 1, 0)), wrapped(4, -1), signed(4, 15), carries(4, 6, 11),
             added(4, 6, 9, first=1), lessened(4, 3, 5), is_below(4, 3, 15), is_under(4, 3, 15)],
            [(0, 1, 1, 0), 6, 15, -1, (0, 0, 1, 1, 1), (0, 1), (14, 0), True, False])

    def test_constants(self):
        self.assertEqual((words.MAX_WIDTH, words.MAX_PLACES), (32, 63))

    def test_is_word(self):
        check_judge(self, is_word, (1,), (0, 1), (2, -1))
        check_judge(self, is_word, (32,), (0, 1, 2 ** 32 - 1), (2 ** 32, -1, "0", (0,)))
        for value in WIDTHS:
            expect(self, InvalidNumber, value, is_word, value, 0)
            expect(self, InvalidNumber, value, is_word, value, None)

    def test_bits_and_word(self):
        for width in SIZES:
            for word, _ in pairs(width):
                bits = bits_of_word(width, word)
                self.assertEqual(bits, tuple(int(sign) for sign in reversed(format(word, f"0{width}b"))))
                self.assertEqual(word_of_bits(bits), word)
                check_own_kinds(self, bits)
        self.assertEqual(bits_of_word(1, 1), (1,))
        self.assertEqual(word_of_bits((0,) * 31 + (1,)), 2 ** 31)
        wrong = odd_but((0,)) + [(0, True), (2,), (0,) * 33, [0, 1], (0, None), (0, "1"), ((0,), 1), ()]
        check_refused(self, word_of_bits, ((0, 1),), [(0, InvalidOperation, [v for v in wrong if v != (0, 0, 0)])])

    def test_wrapped_and_signed(self):
        for width in SIZES:
            size = 2 ** width
            for word, _ in pairs(width):
                number = signed(width, word)
                self.assertEqual(number, word - size if word >= size // 2 else word)
                self.assertTrue(-(size // 2) <= number < size // 2)
                self.assertEqual(wrapped(width, number), word)
            for number in (0, -1, 10 ** 60 - 1, 1 - 10 ** 60, size, -size, size + 3, 5 * size - 1):
                self.assertEqual(wrapped(width, number), number % size)
        self.assertEqual((signed(1, 1), signed(32, 2 ** 31)), (-1, -2 ** 31))

    def test_carries_and_added(self):
        for width in SIZES:
            for one, other in pairs(width):
                for first in (0, 1):
                    row, (word, last) = carries(width, one, other, first=first), added(width, one, other, first=first)
                    self.assertEqual(len(row), width + 1)
                    self.assertEqual((row[0], row[-1]), (first, last))
                    for at in range(width):
                        three = (one >> at & 1, other >> at & 1, row[at])
                        self.assertEqual(row[at + 1], int(sum(three) >= 2))
                        self.assertEqual(word >> at & 1, sum(three) % 2)
                    self.assertEqual(word + 2 ** width * last, one + other + first)
                self.assertEqual(added(width, one, other), added(width, one, other, first=0))
                self.assertEqual(carries(width, one, other), carries(width, one, other, first=0))
        self.assertEqual(carries(32, 2 ** 32 - 1, 0, first=1), (1,) * 33)
        self.assertEqual(added(32, 2 ** 32 - 1, 1), (0, 1))

    def test_lessened(self):
        for width in SIZES:
            for one, other in pairs(width):
                word, least = lessened(width, one, other)
                self.assertEqual((word, least), ((one - other) % 2 ** width, int(one >= other)))
                self.assertIs(type(least), int)
                self.assertEqual((word, least), added(width, one, 2 ** width - 1 - other, first=1))

    def test_below_and_under(self):
        for width in SIZES:
            top = 2 ** (width - 1)
            for one, other in pairs(width):
                self.assertIs(is_below(width, one, other), one < other)
                self.assertIs(is_under(width, one, other), signed(width, one) < signed(width, other))
                self.assertIs(is_under(width, one, other), is_below(width, one ^ top, other ^ top))

    def test_multiplied_and_divided(self):
        for width in SIZES:
            for one, other in pairs(width):
                low, high = multiplied(width, one, other)
                self.assertEqual(low + 2 ** width * high, one * other)
                self.assertTrue(is_word(width, low) and is_word(width, high))
                if other:
                    quotient, rest = divided(width, one, other)
                    self.assertEqual(one, quotient * other + rest)
                    self.assertTrue(0 <= rest < other and is_word(width, quotient))
                else:
                    expect(self, Refused, ("divide",), divided, width, one, 0)
        self.assertEqual(divided(4, 3, 9), (0, 3))

    def test_moved(self):
        for width in SIZES:
            for word, _ in pairs(width)[::7]:
                for places in (0, 1, width - 1, width, width + 1, 63):
                    self.assertEqual(moved_left(width, word, places), word * 2 ** places % 2 ** width)
                    self.assertEqual(moved_right(width, word, places), word // 2 ** places)

    def test_cut_and_put_together(self):
        for width in SIZES:
            for word, _ in pairs(width)[::9]:
                for low in range(width):
                    for many in {1, width - low, (width - low + 1) // 2}:
                        self.assertEqual(
                            bits_of_word(many, cut(width, word, low, many)), bits_of_word(width, word)[low:low + many])
                    if low > 0:
                        parts = ((low, cut(width, word, 0, low)), (width - low, cut(width, word, low, width - low)))
                        self.assertEqual(put_together(parts), (width, word))
        self.assertEqual(put_together(((1, 1), (4, 6), (2, 0), (1, 1))), (8, 1 + 12 + 128))
        self.assertEqual(put_together(((32, 5),)), (32, 5))
        self.assertEqual(put_together(((1, 1),) * 32), (32, 2 ** 32 - 1))

    def test_put_together_is_refused(self):
        wrong = odd_but() + [((1, 2),), ((0, 0),), ((33, 0),), ((1, True),), ((True, 1),), ((1, 1, 1),), ([1, 1],),
                             [(1, 1)], ((1, 1), None), ((1, 10 ** 70),)]
        check_refused(self, put_together, (((1, 1),),), [(0, InvalidOperation, wrong)])
        expect(self, TooMany, 32, put_together, ((1, 1),) * 33)
        expect(self, TooMany, 32, put_together, ((32, 0), (1, 0)))
        expect(self, InvalidOperation, None, put_together, ((32, 0), (1, 2)))

    def test_widened_and_lengthened(self):
        for width in SIZES:
            for word, _ in pairs(width)[::9]:
                for wider in {width, min(width + 1, 32), 32}:
                    self.assertEqual(widened(width, word, wider), word)
                    longer = lengthened(width, word, wider)
                    self.assertTrue(is_word(wider, longer))
                    self.assertEqual(signed(wider, longer), signed(width, word))
        self.assertEqual((lengthened(1, 1, 32), widened(1, 1, 32)), (2 ** 32 - 1, 1))

    def test_what_is_not_true(self):
        self.assertEqual(wrapped(4, -8), 8)
        self.assertNotEqual([signed(2, word) for word in range(4)], sorted(signed(2, word) for word in range(4)))
        self.assertNotEqual(moved_right(4, moved_left(4, 9, 1), 1), 9)
        word, last = added(4, 15, 15)
        self.assertEqual((signed(4, word), last), (signed(4, 15) + signed(4, 15), 1))


class RefusedWordsTest(unittest.TestCase):
    def test_one_word(self):
        ahead = [(0, InvalidNumber, WIDTHS), (1, InvalidNumber, numbers_but(0, 15))]
        for function in (bits_of_word, signed):
            check_refused(self, function, (4, 15), ahead)
        check_refused(self, moved_left, (4, 15, 63), [*ahead, (2, InvalidNumber, numbers_but(0, 63))])
        check_refused(self, moved_right, (4, 15, 0), [*ahead, (2, InvalidNumber, numbers_but(0, 63))])
        for function in (widened, lengthened):
            check_refused(self, function, (4, 15, 4), [*ahead, (2, InvalidNumber, numbers_but(4, 32))])

    def test_wrapped(self):
        whole = [value for value in odd_but() if type(value) is not int] + [10 ** 60, -(10 ** 60), 10 ** 219]
        check_refused(self, wrapped, (4, -77), [(0, InvalidNumber, WIDTHS), (1, InvalidNumber, whole)])

    def test_two_words(self):
        ahead = [(0, InvalidNumber, WIDTHS), (1, InvalidNumber, numbers_but(0, 15)),
                 (2, InvalidNumber, numbers_but(0, 15))]
        for function in (lessened, is_below, is_under, multiplied, divided):
            check_refused(self, function, (4, 15, 1), ahead)
        bits = [*ahead, ("first", InvalidNumber, numbers_but(0, 1))]
        for function in (carries, added):
            check_refused(self, function, (4, 15, 1), bits, {"first": 1})

    def test_division_by_0_comes_last(self):
        for one in numbers_but(0, 15):
            expect(self, InvalidNumber, one, divided, 4, one, 0)
        expect(self, InvalidNumber, False, divided, 4, 3, False)

    def test_cut(self):
        wrong = [(0, InvalidNumber, WIDTHS), (1, InvalidNumber, numbers_but(0, 15)),
                 (2, InvalidNumber, numbers_but(0, 3)), (3, InvalidNumber, numbers_but(1, 4))]
        check_refused(self, cut, (4, 15, 0, 4), wrong)
        expect(self, InvalidNumber, 4, cut, 4, 15, 1, 4)
        expect(self, InvalidNumber, 2, cut, 4, 15, 3, 2)


if __name__ == "__main__":
    unittest.main()
