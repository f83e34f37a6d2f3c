"""The plain machine [11.2] to [11.5]."""

import copy
import itertools
import unittest

from machines_made import ENDS, SHAPES, ahead_of_all, at, plain_step, some_memory, some_program, step_word
from support import alike, check_own_kinds, check_refused, error_of, expect, numbers_but, odd_but, random_source
from truebeat.errors import (
    InvalidChoice, InvalidMemory, InvalidNumber, InvalidOperation, InvalidProgram, InvalidShape, InvalidState, Refused)
from truebeat.plain import machine as module
from truebeat.plain.machine import Plain
from truebeat.plain.shapes import Shape

SMALL = Shape(4, 2)
WRONG_SHAPES = odd_but() + [(4, 2), "shape"]
WRONG_PROGRAMS = [value for value in odd_but() if value not in ((0,), (0, 0, 0))] + [
    (0,) * 257, [0], (65536,), (-1,), (0, True), (None,), (10 ** 70,)]
WRONG_MEMORIES = [value for value in odd_but() if value != {} and value is not None] + [
    {0: 0}, {16: 1}, {0: 16}, {-1: 1}, {True: 1}, {0: True}, {0: None}, {"0": 1}, ((0, 1),), {0: 10 ** 70}]
SPECIALS = range(9)


def by_words(plain):
    """The same state, as the tests' own machine has it."""
    code = next(code for code, ended in ENDS.items() if ended == plain.ended)
    return {"pc": plain.pc, "held": list(plain.registers), "memory": plain.memory, "saved": plain.saved,
            "allowed": int(plain.allowed), "ended": code, "outputs": list(plain.outputs)}


def made(shape, program, m):
    return Plain(shape, program, pc=m["pc"], registers=tuple(m["held"]), memory=m["memory"], saved=m["saved"],
                 allowed=m["allowed"] == 1, ended=ENDS[m["ended"]], outputs=tuple(m["outputs"]))


def some_state(source, shape):
    top = 1 << shape.width
    held = [0] + [source.choice((0, 1, top - 1, top // 2, source.randrange(top), source.randrange(top)))
                  for _ in range(shape.registers - 1)]
    return {**ahead_of_all(shape), "pc": source.randrange(4), "held": held, "memory": some_memory(source, shape),
            "saved": source.randrange(top), "allowed": source.randrange(2), "outputs": [source.randrange(top)]}


class StepsTest(unittest.TestCase):
    def test_constants(self):
        self.assertEqual((module.BELL_PLACE, module.MOST_STEPS), (1, 3000))

    def check_step(self, shape, program, m, bell):
        plain = made(shape, program, m)
        right, _ = plain_step(shape, program, m, bell)
        told = plain.step(bell)
        self.assertEqual(by_words(told), right, (str(shape), program, m, bell))
        self.assertEqual(told, made(shape, program, right))
        self.assertEqual(told.registers[0], 0)
        self.assertEqual(plain, made(shape, program, m))
        return told

    def test_each_operation(self):
        source = random_source(1)
        for shape in SHAPES:
            for op, a, b in itertools.product(range(15), range(8), range(8)):
                for c in (source.randrange(64), source.choice((0, 1, 31, 32, 63))):
                    m = some_state(source, shape)
                    program = (0,) * m["pc"] + (step_word(op, a, b, c),)
                    self.check_step(shape, program, m, source.randrange(2))

    def test_special_operations(self):
        source = random_source(2)
        for shape in SHAPES:
            for a, b, c, bell, allowed in itertools.product(range(0, 8, 3), range(0, 8, 2), range(64), (0, 1), (0, 1)):
                if c > 8 and (a + b + c) % 16:
                    continue
                m = {**some_state(source, shape), "allowed": allowed}
                if source.randrange(3) == 0:
                    m["held"][b % shape.registers] = 0
                self.check_step(shape, (0,) * m["pc"] + (step_word(15, a, b, c),), m, bell)

    def test_all_small_operands(self):
        # All words of four bits in two registers, for each operation that reads them.
        shape = Shape(4, 4)
        for op in (0, 1, 2, 3, 4, 5, 6, 7, 12, 13):
            for one, other in itertools.product(range(16), repeat=2):
                m = {**ahead_of_all(shape), "held": [0, one, other, 5]}
                word = step_word(op, 1, 2, 3) if op > 9 else step_word(op, 3, 1, 2)
                self.check_step(shape, (word,), m, 0)
        for c, one, other in itertools.product((4, 5, 6), range(16), range(16)):
            m = {**ahead_of_all(shape), "held": [0, one, other, 5]}
            self.check_step(shape, (step_word(15, 1, 2, c),), m, 0)
        for op, one, n in itertools.product((8, 10, 11, 14), range(16), range(64)):
            m = {**ahead_of_all(shape), "held": [0, one, 7, 0], "memory": {place: 15 - place for place in range(15)}}
            self.check_step(shape, (step_word(op, 2, 1, n),), m, 0)
        for k in range(512):
            self.check_step(Shape(16, 2), (step_word(9, 1) | k,), ahead_of_all(Shape(16, 2)), 0)

    def test_told_words(self):
        shape = Shape(8, 4)
        m = {**ahead_of_all(shape), "held": [0, 200, 3, 0]}

        def behind(word, register):
            return made(shape, (word,), m).step().registers[register]

        self.assertEqual(behind(step_word(0, 3, 1, 1), 3), 144)
        self.assertEqual(behind(step_word(1, 3, 2, 1), 3), 59)
        self.assertEqual(behind(step_word(5, 3, 1, 2), 3), 1)
        self.assertEqual(behind(step_word(6, 3, 1, 2), 3), 64)
        self.assertEqual(behind(step_word(7, 3, 1, 2), 3), 25)
        self.assertEqual(behind(step_word(8, 3, 1, 62), 3), 198)
        self.assertEqual(behind(step_word(9, 3, 7, 63), 3), 255)
        self.assertEqual(behind(step_word(15, 1, 2, 4), 1), 88)
        self.assertEqual(behind(step_word(15, 1, 2, 5), 1), 66)
        self.assertEqual(behind(step_word(15, 1, 2, 6), 1), 2)
        # Moved by 16 places, which is none, and by 17, which is one.
        for places, right in ((16, 200), (17, 144), (24, 0), (15, 0)):
            moving = {**m, "held": [0, 200, places, 0]}
            self.assertEqual(made(shape, (step_word(6, 3, 1, 2),), moving).step().registers[3], right)

    def test_register_0(self):
        source = random_source(3)
        for shape, op in itertools.product(SHAPES, range(16)):
            for c in (SPECIALS if op == 15 else (0, 8, 16)):
                m = some_state(source, shape)
                a = source.choice((0, shape.registers % 8))
                told = self.check_step(shape, (0,) * m["pc"] + (step_word(op, a, 0, c),), m, 0)
                self.assertEqual(told.registers, tuple(m["held"]))

    def test_jumps_over_both_ends(self):
        shape = Shape(4, 2)
        for pc, n in itertools.product(range(16), range(64)):
            m = {**ahead_of_all(shape), "pc": pc}
            program = (step_word(12, 1, 0, n),) * 16
            told = self.check_step(shape, program, m, 0)
            self.assertEqual(told.pc, (pc + (n if n < 32 else n - 64)) % 16)
        last = {**ahead_of_all(shape), "pc": 15}
        self.assertEqual(made(shape, (0,) * 16, last).step().pc, 0)
        self.assertEqual(made(shape, (step_word(14, 1, 0, 63),) * 16, last).step().registers, (0, 0))

    def test_places_without_a_step(self):
        for shape in SHAPES:
            plain = Plain(shape, (0,))
            self.assertEqual(plain.step().word, 65535)
            told = plain.step().step()
            self.assertEqual((told.ended, told.pc), (("fault", "word"), 1))
            self.assertEqual(Plain(shape, (0,), pc=(1 << shape.width) - 1).word, 65535)
        self.assertEqual(Plain(Shape(4, 2), (1,) * 256, pc=15).word, 1)

    def test_ends_leave_all_as_it_is(self):
        source = random_source(4)
        for shape, (word, ended) in itertools.product(SHAPES, (
                (step_word(15, 1, 0, 0), ("end",)), (step_word(15, 1, 0, 5), ("fault", "divide")),
                (step_word(15, 1, 0, 6), ("fault", "divide")), (65535, ("fault", "word")),
                (step_word(15, 0, 0, 7), ("fault", "word")), (step_word(15, 0, 0, 63), ("fault", "word")))):
            for bell in (0, 1):
                m = {**some_state(source, shape), "allowed": 1}
                plain = made(shape, (0,) * m["pc"] + (word,), m)
                told = plain.step(bell)
                self.assertEqual(told.ended, ended)
                self.assertEqual({**by_words(told), "ended": 0}, by_words(plain))
                expect(self, Refused, ("ended",), told.step)
                expect(self, InvalidChoice, None, told.step, 2)
                self.assertEqual(told.run(5, (1,)), told)
                self.assertEqual(list(told.trace(5)), [])

    def test_bells(self):
        shape = Shape(8, 2)
        program = (step_word(9, 1, 0, 5), step_word(15, 1, 0, 3), step_word(15, 1, 0, 2), step_word(15, 0, 0, 3))
        plain = Plain(shape, program, saved=9)
        self.assertEqual(plain.step(1).pc, 1)
        # Just behind the step that allows bells one is taken, and behind the one that forbids them none is.
        behind = plain.step().step(1)
        self.assertEqual((behind.pc, behind.saved, behind.allowed), (1, 2, False))
        back = Plain(shape, program, pc=2, saved=7).step(1)
        self.assertEqual((back.pc, back.saved, back.allowed), (1, 7, False))
        self.assertEqual(Plain(shape, program, pc=2, saved=7).step().allowed, True)
        forbidden = Plain(shape, program, pc=3, allowed=True).step(1)
        self.assertEqual((forbidden.pc, forbidden.allowed), (4, False))
        self.assertEqual(Plain(shape, program, allowed=True).step(1).saved, 1)

    def test_steps_refuse_what_is_no_bit(self):
        plain = Plain(SMALL, (0,))
        check_refused(self, plain.step, (0,), [(0, InvalidChoice, odd_but(0, 1) + [2, -1])])
        self.assertEqual(plain.step(bell=1), plain.step())


class RunsTest(unittest.TestCase):
    def trial(self, shape, program, m, steps, bells):
        seen = []
        for number in range(1, steps + 1):
            if m["ended"]:
                break
            place = m["pc"]
            m, rang = plain_step(shape, program, m, number in bells)
            seen.append((place, at(program, place), rang))
        return m, seen

    def test_runs_and_traces(self):
        source = random_source(5)
        for turn in range(150):
            shape = source.choice(SHAPES)
            program = some_program(source, source.randrange(1, 30))
            m = some_state(source, shape)
            steps = source.choice((0, 1, 5, 40, 150))
            bells = tuple(sorted(source.sample(range(1, 160), source.choice((0, 1, 5, 60)))))
            right, seen = self.trial(shape, program, m, steps, bells)
            plain = made(shape, program, m)
            self.assertEqual(by_words(plain.run(steps, bells)), right)
            told = list(plain.trace(steps, bells))
            self.assertTrue(alike(told, seen))
            check_own_kinds(self, tuple(told))
            # Cut in two, with the bells of the second run counted anew.
            cut = source.randrange(steps + 1)
            first = plain.run(cut, tuple(number for number in bells if number <= cut))
            rest = tuple(number - cut for number in bells if number > cut)
            if first.ended is None or len(seen) == cut:
                self.assertEqual(first.run(steps - cut, rest), plain.run(steps, bells))
            self.assertEqual(plain.run(steps, bells).outputs[:len(first.outputs)], first.outputs)
            # Greater numbers make no difference.
            self.assertEqual(plain.run(steps, tuple(sorted({*bells, 10 ** 59, steps + 1}))), plain.run(steps, bells))

    def test_3000_steps(self):
        count = Plain(Shape(16, 2), (step_word(8, 1, 1, 1), step_word(12, 0, 0, 63)))
        told = count.run(3000)
        self.assertEqual((told.registers[1], told.pc), (1500, 0))
        self.assertEqual(len(list(count.trace(3000))), 3000)
        self.assertEqual(count.run(0), count)
        self.assertEqual(list(count.trace(0)), [])
        puts = Plain(Shape(16, 2), (step_word(15, 1, 0, 1), step_word(12, 0, 0, 63)))
        self.assertEqual(puts.run(3000).outputs, (0,) * 1500)

    def test_memories_that_grow(self):
        # More than 1,000 places may come of steps, but may not be passed.
        shape = Shape(16, 2)
        full = {place: 1 for place in range(1000)}
        told = Plain(shape, (step_word(11, 1, 1, 0),), registers=(0, 2000), memory=full).step()
        self.assertEqual(told.memory, {**full, 2000: 2000})
        self.assertEqual(list(told.memory), sorted(told.memory))
        expect(self, InvalidMemory, None, Plain, shape, (0,), memory=told.memory)
        self.assertEqual(told.run(1).ended, ("fault", "word"))
        self.assertEqual(len(told.run(1).memory), 1001)
        grown = Plain(shape, (step_word(8, 1, 1, 1), step_word(11, 1, 1, 0), step_word(12, 0, 0, 62))).run(3000)
        self.assertEqual(grown.memory, {place: place for place in range(1, 1001)})

    def test_errors(self):
        plain = Plain(SMALL, (0, 1, 2))
        bells = [value for value in odd_but() if value != ()] + [(0,), (1, 1), (2, 1), [1], (1, True), (-1,), (1, None)]
        wrong = [(0, InvalidNumber, numbers_but(0, 3000)), (1, InvalidOperation, bells)]
        check_refused(self, plain.run, (5, (1, 3)), wrong)

        def trace(steps, told):
            return next(iter(plain.trace(steps, told)))

        check_refused(self, trace, (5, (1, 3)), wrong)
        for steps, told in ((None, None), (-1, ()), (3, None)):
            self.assertIsNone(error_of(plain.trace, steps, told))


class StatesTest(unittest.TestCase):
    def test_properties(self):
        plain = Plain(SMALL, (5, 6))
        self.assertEqual((plain.pc, plain.registers, plain.memory, plain.saved), (0, (0, 0), {}, 0))
        self.assertEqual((plain.allowed, plain.ended, plain.outputs, plain.word), (False, None, (), 5))
        self.assertEqual((plain.shape, plain.program), (SMALL, (5, 6)))
        full = Plain(SMALL, (5,), pc=3, registers=(0, 7), memory={9: 1, 2: 15}, saved=4, allowed=True,
                     ended=("fault", "divide"), outputs=(1, 2))
        told = (full.pc, full.registers, full.memory, full.saved, full.allowed, full.ended, full.outputs, full.word)
        self.assertTrue(alike(told, (3, (0, 7), {2: 15, 9: 1}, 4, True, ("fault", "divide"), (1, 2), 65535)))
        check_own_kinds(self, told)

    def test_texts(self):
        for ended, told in ((None, ""), (("end",), ", ended: end"), (("fault", "word"), ", ended: word"),
                            (("fault", "divide"), ", ended: divide")):
            plain = Plain(SMALL, (0,), pc=3, outputs=(1, 2), ended=ended)
            self.assertEqual(str(plain), "machine at 3, 2 words put out" + told)
        self.assertEqual(str(Plain(SMALL, (0,), outputs=(1,))), "machine at 0, 1 words put out")

    def test_equality(self):
        good = {"pc": 3, "registers": (0, 7), "memory": {2: 1}, "saved": 4, "allowed": True, "ended": ("end",),
                "outputs": (1,)}
        plain = Plain(SMALL, (0,), **good)
        self.assertIs(plain == Plain(SMALL, (0,), **copy.deepcopy(good)), True)
        for name, value in (("pc", 4), ("registers", (0, 8)), ("memory", {2: 2}), ("memory", {}), ("saved", 5),
                            ("allowed", False), ("ended", None), ("ended", ("fault", "word")), ("outputs", (1, 1))):
            other = Plain(SMALL, (0,), **{**good, name: value})
            self.assertIs(plain == other, False, name)
            self.assertIs(plain != other, True, name)
        self.assertNotEqual(plain, Plain(SMALL, (1,), **good))
        self.assertNotEqual(plain, Plain(Shape(5, 2), (0,), **good))
        for value in odd_but():
            self.assertIs(plain == value, False)
        self.assertIn(plain, [None, plain])

    def test_they_never_change(self):
        memory = {2: 1}
        plain = Plain(SMALL, (0,), memory=memory)
        memory[3] = 1
        plain.memory[4] = 1
        self.assertEqual(plain.memory, {2: 1})
        for name in ("pc", "memory", "word", "outputs", "shape", "program", "registers", "saved", "allowed", "ended"):
            with self.assertRaises(AttributeError):
                setattr(plain, name, 0)
        with self.assertRaises(TypeError):
            iter(plain)

    def test_errors(self):
        words = [value for value in odd_but(0) if not (type(value) is int and 0 <= value < 16)] + [16, -1]
        registers = [value for value in odd_but() if value is not None] + [
            (0,), (0, 16), (1, 0), (0, True), [0, 0], (0, 0, 0), (0, None), (False, 0)]
        outputs = [value for value in odd_but() if value not in ((), (0,), (0, 0, 0))] + [(16,), [1], (1, True), (-1,)]
        ends = [value for value in odd_but() if value is not None] + [
            "end", ("fault",), ("fault", "end"), ["end"], ("end", "word"), ("fault", "divide", 0), ("word",)]
        good = {"pc": 3, "registers": (0, 7), "memory": {2: 1}, "saved": 4, "allowed": True, "ended": ("end",),
                "outputs": (1,)}
        check_refused(self, Plain, (SMALL, (0,)), [
            (0, InvalidShape, WRONG_SHAPES), (1, InvalidProgram, WRONG_PROGRAMS), ("pc", InvalidState, words),
            ("registers", InvalidState, registers), ("memory", InvalidMemory, WRONG_MEMORIES),
            ("saved", InvalidState, words), ("allowed", InvalidState, odd_but(True, False) + [0, 1]),
            ("ended", InvalidState, ends), ("outputs", InvalidState, outputs)], good)
        great = {place: 1 for place in range(1001)}
        expect(self, InvalidMemory, None, Plain, Shape(16, 2), (0,), memory=great)
        self.assertEqual(len(Plain(Shape(16, 2), (0,) * 256, memory=dict(list(great.items())[:1000])).memory), 1000)

    def test_what_is_not_true(self):
        # With bells a program that ends may go on for ever, from place 1 on.
        program = (step_word(12, 0, 0, 2), step_word(12, 0, 0, 0), step_word(9, 1, 0, 1), step_word(15, 1, 0, 3),
                   step_word(15, 0, 0, 0))
        plain = Plain(Shape(8, 2), program)
        self.assertEqual(plain.run(100).ended, ("end",))
        self.assertIsNone(plain.run(100, (3,)).ended)
        again = Plain(Shape(8, 2), (step_word(9, 1, 0, 3),), registers=(0, 3), pc=0)
        self.assertEqual(again.step().registers, again.registers)


if __name__ == "__main__":
    unittest.main()
