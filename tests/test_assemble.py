"""Assemblies [17.2] to [17.5]."""

import itertools
import unittest

from machines_made import SHAPES, parts_of, read_numbers, signed, step_word
from support import alike, check_judge, check_own_kinds, check_refused, expect, odd_but, random_source
from test_machine import WRONG_SHAPES
from truebeat.errors import InvalidLines, InvalidShape, Refused, TooMany
from truebeat.plain.machine import Plain
from truebeat.plain.shapes import Shape
from truebeat.text import assemble as module
from truebeat.text.assemble import are_far_reasons, assemble, does_fit, far_lot, far_reasons, label_places

SMALL, WIDE = Shape(4, 2), Shape(16, 8)
NOP = step_word(9, 1) | 7
LINES_WRONG = [value for value in odd_but() if value not in ((0,), (0, 0, 0))] + [
    [0], (0,) * 257, (65536,), (-1,), (True,), (("label", "a"), ("label", "a")), (("same", 0, 0, "a"),), (("label", "a"), ("place", 1, "b")),
    *((("label", "a"), line) for line in (
        ("same", 8, 0, "a"), ("same", 0, -1, "a"), ("same", True, 0, "a"), ("same", 0, "a"), ("same", 0, 0, 0, "a"), ("under", 0, 0),
        ("place", 8, "a"), ("place", "a"), ("place", 0, 0, "a"), ("jump", 0, 0, "a"), ["same", 0, 0, "a"], ("same", 0, 0, None), (),
        ("label",), ("label", "b", "c"), ("label", 0), (0, "a"), ([], "a"), ({}, "a"), (None, 0, "a"), ("x", 0, 0, "a"))),
    *((("label", name),) for name in ("", "A", "a1", "abcdefghi", "a b", "a.", None, 0, ("a",)))]


def layout(lines, far):
    """The words of all lines, the places of branches still by name: by [17.3] with a set of far branches."""
    words, places = [], {}
    for index, line in enumerate(lines):
        if not isinstance(line, tuple):
            words.append(line)
        elif line[0] == "label":
            places[line[1]] = len(words)
        elif index in far:
            words += [(index, "branch"), step_word(12, 0, 0, 3), (index, "set"), (index, "jump")]
        else:
            words.append((index, "place" if line[0] == "place" else "near"))
    return words, places


def program_of(shape, lines, far):
    """The program with a lot, by [17.3]."""
    words, places = layout(lines, far)
    spare, program = shape.registers - 1, []
    for at, word in enumerate(words):
        if isinstance(word, tuple):
            line, op = lines[word[0]], {"same": 12, "under": 13}.get(lines[word[0]][0])
            place = places[line[-1]]
            word = {"branch": lambda: step_word(op, line[1], line[2], 2), "set": lambda: step_word(9, spare) | place,
                    "jump": lambda: step_word(14, 0, spare, 0), "place": lambda: step_word(9, line[1]) | place,
                    "near": lambda: step_word(op, line[1], line[2], place - at)}[word[1]]()
        program.append(word)
    return tuple(program)


def branches(lines):
    return [index for index, line in enumerate(lines) if isinstance(line, tuple) and line[0] in ("same", "under")]


def all_lots(lines):
    every = branches(lines)
    return [lot for many in range(len(every) + 1) for lot in itertools.combinations(every, many)]


def fit(lines, far):
    words, places = layout(lines, far)
    near = [(at, lines[word[0]][-1]) for at, word in enumerate(words) if isinstance(word, tuple) and word[1] == "near"]
    return all(-32 <= places[name] - at <= 31 for at, name in near)


def some_assembly(source, most_branches, filler):
    """Lines with branches whose ways are about as long as reaches, forward and back."""
    names = ["a", "bb", "label", "abcdefgh"][:source.randrange(1, 5)]
    lines = [("label", name) for name in names]
    for _ in range(source.randrange(1, most_branches + 1)):
        lines.append((source.choice(("same", "under")), source.randrange(8), source.randrange(8), source.choice(names)))
    lines += [("place", source.randrange(8), source.choice(names))] * source.randrange(3)
    source.shuffle(lines)
    for _ in range(source.randrange(1, 5)):
        at = source.randrange(len(lines) + 1)
        lines[at:at] = [source.choice((0, 65535, NOP))] * source.randrange(filler)
    return tuple(lines)


class LotsTest(unittest.TestCase):
    def test_constants(self):
        self.assertEqual((module.MOST_LINES, module.NEAR_LEAST, module.NEAR_MOST, module.FAR_SIZE), (256, -32, 31, 4))

    def test_against_all_lots(self):
        source = random_source(1)
        sizes = {}
        for turn in range(400):
            shape, lines = SHAPES[turn % len(SHAPES)], some_assembly(source, 6, 25)
            good = [lot for lot in all_lots(lines) if fit(lines, lot)]
            least = good[0]
            self.assertTrue(all(set(least) <= set(lot) for lot in good))
            self.assertTrue(alike(far_lot(shape, lines), least))
            sizes[len(least)] = sizes.get(len(least), 0) + 1
            for lot in all_lots(lines):
                self.assertIs(does_fit(shape, lines, lot), lot in good)
            self.check_made(shape, lines, least)
            if source.randrange(4) == 0:
                self.check_reasons(shape, lines, least)
        self.assertTrue(all(sizes.get(many, 0) > 10 for many in range(4)), sizes)

    def check_reasons(self, shape, lines, least):
        """All sequences of all branches, taken or left out, against those by the words of [17.4]."""
        def by_words(row):
            if sorted(row) != sorted(least):
                return False
            for many, index in enumerate(row):
                words, places = layout(lines, row[:many])
                at = words.index((index, "near"))
                if -32 <= places[lines[index][-1]] - at <= 31:
                    return False
            return True

        told = far_reasons(shape, lines)
        check_own_kinds(self, told)
        self.assertTrue(by_words(told))
        for row in itertools.permutations(least):
            self.assertIs(are_far_reasons(shape, lines, row), by_words(row))
        for row in (told + told[:1], told[1:], told + tuple(index for index in branches(lines) if index not in least)[:1]):
            self.assertIs(are_far_reasons(shape, lines, row), row == told)

    def check_made(self, shape, lines, far):
        right = program_of(shape, lines, far)
        most = min(255, 2 ** shape.width - 1)
        if len(right) > most:
            expect(self, TooMany, most, assemble, shape, lines)
        elif not right:
            expect(self, Refused, ("empty",), assemble, shape, lines)
        else:
            self.assertTrue(alike(assemble(shape, lines), right))
        self.assertTrue(alike(label_places(shape, lines), dict(sorted(layout(lines, far)[1].items()))))

    def test_reach(self):
        """Branches that reach by just one word, forward and back."""
        for size in range(28, 36):
            forward = (("same", 0, 0, "a"), *[NOP] * size, ("label", "a"), 0)
            back = (("label", "a"), *[NOP] * size, ("under", 1, 2, "a"))
            self.assertEqual(far_lot(WIDE, forward), () if size + 1 <= 31 else (0,))
            self.assertEqual(far_lot(WIDE, back), () if size <= 32 else (size + 1,))
            for lines in (forward, back):
                self.check_made(WIDE, lines, far_lot(WIDE, lines))
        self.assertEqual(assemble(WIDE, (("same", 0, 0, "a"), *[NOP] * 30, ("label", "a")))[0], step_word(12, 0, 0, 31))
        self.assertEqual(assemble(WIDE, (("label", "a"), *[NOP] * 32, ("same", 0, 0, "a")))[-1], step_word(12, 0, 0, 32))

    def test_one_pushes_another(self):
        """A far branch pushes another one out of reach, and this one a third one."""
        lines = (("same", 0, 0, "a"), ("same", 1, 0, "b"), *[NOP] * 29, ("label", "a"), NOP, NOP, ("label", "b"), ("under", 0, 1, "c"),
                 *[NOP] * 31, ("label", "c"))
        self.assertEqual(far_lot(WIDE, lines), (0, 1, 35))
        self.assertEqual([does_fit(WIDE, lines, lot) for lot in ((), (1,), (35,), (1, 35), (0, 1), (0, 1, 35))], [False] * 5 + [True])
        self.check_reasons(WIDE, lines, (0, 1, 35))
        self.assertEqual([row for row in itertools.permutations((0, 1, 35)) if are_far_reasons(WIDE, lines, row)],
                         [(1, 0, 35), (1, 35, 0), (35, 1, 0)])
        # [17.9]: the branches that do not reach when all are near are not a lot that fits.
        self.assertIs(does_fit(WIDE, lines, (1, 35)), False)

    def test_judges(self):
        lines = (("same", 0, 0, "a"), ("same", 1, 0, "b"), *[NOP] * 29, ("label", "a"), NOP, NOP, ("label", "b"), ("under", 0, 1, "a"))
        self.assertEqual(far_lot(WIDE, lines), (0, 1))
        check_judge(self, does_fit, (WIDE, lines), [(0, 1), (0, 1, 35)],
                    [(), (1,), (0,), (1, 0), (0, 0, 1), (0, 1, 2), (0, 1, 36), [0, 1], (False, 1), (0, True), (-1, 0, 1), (0, 1, None)])
        check_judge(self, are_far_reasons, (WIDE, lines), [(1, 0)],
                    [(), (1,), (0,), (0, 1), (1, 0, 35), (1, 0, 0), [1, 0], (True, 0), (1, False), (1, 0, 2), (1, 36), (1, None)])
        check_judge(self, does_fit, (WIDE, (NOP, ("label", "a"))), [()], [(0,), (1,)])
        check_judge(self, are_far_reasons, (WIDE, (NOP, ("label", "a"))), [()], [(0,), (1,)])

    def test_long(self):
        lines = tuple(("same", 1, 2, "abcdefgh") for _ in range(255)) + (("label", "abcdefgh"),)
        self.assertEqual(far_lot(WIDE, lines), tuple(range(224)))
        reasons = far_reasons(WIDE, lines)
        self.assertIs(are_far_reasons(WIDE, lines, reasons), True)
        self.assertIs(are_far_reasons(WIDE, lines, tuple(range(224))), True)
        self.assertIs(are_far_reasons(WIDE, lines, tuple(range(223, -1, -1))), True)
        self.assertEqual(label_places(WIDE, lines), {"abcdefgh": 224 * 4 + 31})
        expect(self, TooMany, 255, assemble, WIDE, lines)


class ProgramsTest(unittest.TestCase):
    def test_sizes(self):
        for shape in SHAPES:
            most = min(255, 2 ** shape.width - 1)
            lines = tuple([NOP] * most) + (("label", "a"),)
            self.assertEqual(assemble(shape, lines), (NOP,) * most)
            self.assertEqual(label_places(shape, lines), {"a": most})
            expect(self, TooMany, most, assemble, shape, (NOP,) * (most + 1))
            far = (("label", "a"), *[NOP] * min(most - 4, 250), ("same", 0, 0, "a"))
            self.assertEqual(len(assemble(shape, far)), most - 3 if most == 15 else min(most - 4, 250) + (4 if most > 33 else 1))
        expect(self, Refused, ("empty",), assemble, SMALL, (("label", "a"), ("label", "b")))
        self.assertEqual(label_places(SMALL, (("label", "b"), ("label", "a"))), {"a": 0, "b": 0})

    def test_labels_and_places(self):
        lines = (("label", "z"), ("place", 1, "end"), ("label", "b"), ("label", "a"), ("place", 7, "z"), 5, ("same", 3, 4, "b"), ("label", "end"))
        self.assertEqual(assemble(WIDE, lines), (step_word(9, 1) | 4, step_word(9, 7), 5, step_word(12, 3, 4, -2)))
        self.assertTrue(alike(label_places(WIDE, lines), {"a": 1, "b": 1, "end": 4, "z": 0}))
        for place in range(256):
            lines = tuple([NOP] * place) + (("label", "a"),) + tuple([NOP] * (254 - place)) + (("place", 2, "a"),) * (place < 255)
            if len(lines) <= 256:
                self.assertEqual(assemble(WIDE, lines)[-1], NOP if place == 255 else step_word(9, 2) | place)

    def test_far_branches_on_the_machine(self):
        """A far branch leads where it is to lead if it is taken, and behind itself if not."""
        for shape in (Shape(8, 2), Shape(8, 4), WIDE):
            for taken, name, word in ((1, "same", 0), (0, "same", 1), (1, "under", 1), (0, "under", 511)):
                lines = (step_word(9, 1) | word, (name, 0, 1, "a"))
                lines += tuple([step_word(15, 0, 0, 1)] * 40) + (("label", "a"), step_word(15, 1, 0, 1), step_word(15))
                program = assemble(shape, lines)
                self.assertEqual(len(program), 47)
                plain = Plain(shape, program).run(100)
                self.assertEqual((len(plain.outputs), plain.ended), (1 if taken else 41, ("end",)))

    def test_all_lots_run_alike(self):
        """[17.5] over drawn programs: all lots that fit, one first state."""
        source = random_source(2)
        several = 0
        for _ in range(80):
            shape = source.choice((Shape(8, 4), Shape(8, 8), Shape(16, 4), Shape(9, 8)))
            spare = shape.registers - 1
            lines = []
            while len(lines) < 60:
                op = source.choice((0, 1, 2, 3, 4, 5, 6, 7, 8, 9, 9, 10, 11, 15))
                word = step_word(op, source.randrange(8), source.randrange(8), source.choice((0, 1, 3, 4, 5, 6, 9) if op == 15 else range(64)))
                if op == 15 and parts_of(word)[3] in (0, 9) and source.randrange(4):
                    continue
                if spare not in read_numbers(shape, word) and parts_of(word)[1] % shape.registers != spare:
                    lines.append(word)
            names = ["a", "b", "c"]
            for name in names:
                lines.insert(source.randrange(len(lines) + 1), ("label", name))
            numbers = [number for number in range(8) if number % shape.registers != spare]
            for _ in range(4):
                lines.insert(source.randrange(len(lines) + 1), (source.choice(("same", "under")), source.choice(numbers), source.choice(numbers),
                                                              source.choice(names)))
            lines = tuple(lines)
            held = (0,) + tuple(source.randrange(4) for _ in range(shape.registers - 1))
            memory = {place: source.randrange(1, 9) for place in range(8)}
            results = []
            good = [lot for lot in all_lots(lines) if does_fit(shape, lines, lot)]
            several += len(good) > 2
            for lot in good:
                program = program_of(shape, lines, lot)
                plain = Plain(shape, program, registers=held, memory=memory).run(3000)
                if plain.ended is not None:
                    results.append((plain.outputs, plain.ended, plain.memory, plain.registers[:-1]))
                else:
                    results.append(plain.outputs[:5])
            self.assertEqual(program_of(shape, lines, far_lot(shape, lines)), assemble(shape, lines))
            self.assertTrue(all(result == results[0] for result in results), lines)
        self.assertGreater(several, 30)

    def test_errors(self):
        lines = (("label", "a"), NOP, ("same", 0, 0, "a"))
        wrong = [(0, InvalidShape, WRONG_SHAPES), (1, InvalidLines, LINES_WRONG)]
        for function in (far_lot, far_reasons, assemble, label_places):
            check_refused(self, function, (SMALL, lines), wrong)
        for function in (does_fit, are_far_reasons):
            check_refused(self, function, (SMALL, lines, ()), wrong)
        self.assertEqual(assemble(SMALL, (("label", "abcdefgh"), 0)), (0,))
        self.assertEqual((assemble(SMALL, (5,)), far_lot(SMALL, (5,)), label_places(SMALL, (("label", "a"),))), ((5,), (), {"a": 0}))
        self.assertEqual(signed(6, assemble(SMALL, lines)[-1] & 63), -1)


if __name__ == "__main__":
    unittest.main()
