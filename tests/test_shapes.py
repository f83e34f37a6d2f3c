"""Shapes and step words [11.1], [11.2]."""

import itertools
import unittest

from support import alike, check_own_kinds, check_refused, error_of, expect, numbers_but, odd_but, random_source
from truebeat.errors import InvalidNumber, InvalidShape
from truebeat.plain import shapes as module
from truebeat.plain.shapes import Shape, fields_of, given_by, word_of

SHAPES = odd_but() + [(4, 2), "shape of 4 bits, 2 registers", object()]


class ShapesTest(unittest.TestCase):
    def test_constants(self):
        self.assertEqual((module.MOST_WORDS, module.NO_WORD), (256, 65535))

    def test_which_there_are(self):
        for width, many in itertools.product(range(-1, 20), range(-1, 18)):
            right = 4 <= width <= 16 and many in (2, 4, 8)
            if right:
                shape = Shape(width, many)
                self.assertEqual((shape.width, shape.registers), (width, many))
                self.assertEqual(str(shape), f"shape of {width} bits, {many} registers")
                check_own_kinds(self, (shape.width, shape.registers))
            else:
                expect(self, InvalidShape, None, Shape, width, many)
        self.assertEqual(str(Shape(8, 4)), "shape of 8 bits, 4 registers")
        self.assertEqual(Shape(registers=4, width=8), Shape(8, 4))

    def test_equality(self):
        every = [Shape(width, many) for width in range(4, 17) for many in (2, 4, 8)]
        for (at, one), (to, other) in itertools.product(enumerate(every), repeat=2):
            self.assertIs(one == other, at == to)
            self.assertIs(one != other, at != to)
        for value in SHAPES:
            self.assertIs(Shape(4, 2) == value, False)
            self.assertIs(Shape(4, 2) != value, True)
            self.assertIs(value == Shape(4, 2), False)
        self.assertIn(Shape(4, 2), every)
        self.assertNotIn(Shape(4, 2), [value for value in SHAPES])

    def test_they_never_change(self):
        shape = Shape(4, 2)
        for name in ("width", "registers"):
            with self.assertRaises(AttributeError):
                setattr(shape, name, 8)
        self.assertEqual((shape.width, shape.registers), (4, 2))
        with self.assertRaises(TypeError):
            iter(shape)
        with self.assertRaises(TypeError):
            shape + shape

    def test_errors(self):
        registers = odd_but() + [3, 16, 2 ** 70, "2", 1, 0]
        check_refused(self, Shape, (4, 2), [(0, InvalidShape, numbers_but(4, 16)), (1, InvalidShape, registers)])

    def test_derived_shapes(self):
        class Own(Shape):
            pass

        self.assertEqual(given_by(Own(4, 2), word_of(9, 3, 0, 0)), 1)
        self.assertEqual(Own(4, 2), Shape(4, 2))


class WordsTest(unittest.TestCase):
    def test_examples(self):
        small = Shape(4, 2)
        self.assertEqual(
            [word_of(9, 1, 7, 63), fields_of(37887 + 1), word_of(15, 0, 0, 0), given_by(small, word_of(8, 2, 1, 1)),
             given_by(small, word_of(10, 3, 0, 0))], [37887, (9, 2, 0, 0), 61440, 0, 1])

    def test_all_step_words(self):
        for word in range(65536):
            fields = fields_of(word)
            text = f"{word:016b}"
            self.assertEqual(fields, tuple(int(part, 2) for part in (text[:4], text[4:7], text[7:10], text[10:])))
            self.assertEqual(word_of(*fields), word)
        check_own_kinds(self, fields_of(65535))

    def test_given_by(self):
        source = random_source(1)
        for shape in (Shape(4, 2), Shape(9, 4), Shape(16, 8)):
            for op, a, c in itertools.product(range(16), range(8), (*range(9), 15, 20, 62, 63)):
                gives = op <= 10 or op == 14 or (op == 15 and c in (4, 5, 6))
                word = word_of(op, a, source.randrange(8), c)
                self.assertEqual(given_by(shape, word), a % shape.registers if gives else 0)

    def test_errors(self):
        words = numbers_but(0, 65535)
        check_refused(self, fields_of, (65535,), [(0, InvalidNumber, words)])
        check_refused(self, given_by, (Shape(4, 2), 0), [(0, InvalidShape, SHAPES), (1, InvalidNumber, words)])
        check_refused(self, word_of, (15, 7, 7, 63), [
            (at, InvalidNumber, numbers_but(0, most)) for at, most in enumerate((15, 7, 7, 63))])
        error = error_of(word_of, 15, 8, 9, 64)
        self.assertTrue(alike(error.given, 8))


if __name__ == "__main__":
    unittest.main()
