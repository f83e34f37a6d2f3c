"""What pipe states mean, which are kept, and their rank [13.4] to [13.10]."""

import itertools
import unittest

from machines_made import (
    ENDS, SHAPES, at, is_long, pipe_fields, pipe_step, read_numbers, register_names, some_memory, some_pipe,
    some_program, step_word, store)
from support import check_own_kinds, check_refused, expect, odd_but, random_source
from test_machine import WRONG_MEMORIES, WRONG_PROGRAMS, WRONG_SHAPES
from test_pipe import PUT, SET, STATES, state_with
from truebeat.core.meaning import drained, is_kept, meaning, rank, square
from truebeat.core.pipe import first_pipe, is_long_word, is_pipe, reads_of
from truebeat.errors import InvalidChoice, InvalidMemory, InvalidProgram, InvalidShape, InvalidState, Refused
from truebeat.plain.machine import Plain
from truebeat.plain.shapes import Shape

SMALL, BYTE = Shape(4, 2), Shape(8, 4)
PROGRAM, MEMORY = (9 << 12 | 1 << 9 | 3, 15 << 12 | 1 << 9 | 1, 15 << 12), {}
TIMES, PART, LOAD = step_word(15, 1, 2, 4), step_word(15, 1, 2, 5), step_word(10, 3, 1, 2)
CHOICES = odd_but((0, 0, 0)) + [(3, 1), (3, 1, 0, 0), (3, 1, 9, 0), [3, 1, 0], (16, 1, 0), (-1, 1, 0), (3, True, 0), (3, 2, 0),
                       (3, 1, 2), (3, 1, False), (None, 1, 0), (True, 1, 0)]


def plain_meaning(shape, s, memory, program):
    """The meaning by the words of [13.4], as a tuple."""
    held = [0] + [s[name] for name in register_names(shape)]
    if s["w_to"]:
        held[s["w_to"]] = s["w_x"]
    if s["m_to"] and s["m_kind"] != 2:
        held[s["m_to"]] = memory.get(s["m_x"], 0) if s["m_kind"] == 1 else s["m_x"]
    if s["m_kind"] == 2:
        memory = store(memory, s["m_x"], s["m_y"])
    place = s["x_pc"] if s["x_on"] else s["d_pc"] if s["d_on"] else s["pc"]
    return place, tuple(held), memory, s["saved"], s["allowed"] == 1, ENDS[s["ended"]]


def told_meaning(plain):
    return plain.pc, plain.registers, plain.memory, plain.saved, plain.allowed, plain.ended


def is_kept_by_words(shape, s, memory, program):
    """Whether a state is kept, by the words of [13.5], clause by clause."""
    w, fit = shape.width, 1 << shape.width
    clauses = []
    for letter, number in (("d", 4), ("x", 6), ("u", 4)):
        names = [name for name in s if name.startswith(f"{letter}_")]
        assert len(names) == number
        clauses.append(s[f"{letter}_on"] == 1 or all(s[name] == 0 for name in names))
    clauses.append(s["m_kind"] in (1, 2) or s["m_to"] != 0 or s["m_x"] == s["m_y"] == 0)
    clauses.append(s["m_kind"] == 2 or s["m_y"] == 0)
    clauses.append(s["w_to"] != 0 or s["w_x"] == 0)
    clauses.append(s["ended"] == 0 or s["x_on"] == s["d_on"] == 0)
    if s["x_on"]:
        word = at(program, s["x_pc"])
        held = plain_meaning(shape, s, memory, program)[1]
        values = [held[number] for number in read_numbers(shape, word)] + [0, 0]
        clauses += [s["x_word"] == word, [s["x_one"], s["x_two"]] == values[:2]]
        clauses.append(s["d_pc"] == s["x_next"] if s["d_on"] else s["pc"] == s["x_next"])
    if s["d_on"]:
        clauses += [s["d_word"] == at(program, s["d_pc"]), s["pc"] == s["d_next"]]
    if s["u_on"]:
        good = bool(s["x_on"]) and is_long(s["x_word"], s["x_two"]) and s["u_left"] <= w
        if good:
            k, one, two = w - s["u_left"], s["x_one"], s["x_two"]
            if s["x_word"] % 64 == 4:
                right = one * (two >> s["u_left"]) % fit, (two << k) % fit
            else:
                high = one >> s["u_left"]
                right = high % two % fit, ((one << k) + high // two) % fit
            good = (s["u_one"], s["u_two"]) == right
        clauses.append(good)
    clauses += [s["m_kind"] < 3, s["m_kind"] != 2 or s["m_to"] == 0]
    return all(clauses)


def rank_by_words(shape, s):
    w = shape.width
    if s["ended"]:
        return 0
    if s["x_on"]:
        return (s["u_left"] + 1 if s["u_on"] else w + 2) if is_long(s["x_word"], s["x_two"]) else 1
    if s["d_on"]:
        return w + 3 if s["d_word"] >> 12 == 15 and s["d_word"] % 64 in (4, 5, 6) else 2
    return w + 4


def some_kept(source, shape, program, memory):
    """A kept state to which no run need lead: any places, guesses, values and rounds that fit together."""
    top = 1 << shape.width
    s = {**first_pipe(shape), "pc": source.randrange(min(top, 20)), "saved": source.randrange(top),
         "allowed": source.randrange(2), "ended": source.choice((0, 0, 0, 0, 1, 2, 3))}
    for name in register_names(shape):
        s[name] = source.choice((0, 1, top - 1, source.randrange(top)))
    s["m_kind"] = source.randrange(3)
    s["m_to"] = 0 if s["m_kind"] == 2 else source.randrange(shape.registers)
    if s["m_kind"] or s["m_to"]:
        s["m_x"] = source.choice((*memory, source.randrange(top)))
    s["m_y"] = source.randrange(top) if s["m_kind"] == 2 else 0
    s["w_to"] = source.randrange(shape.registers)
    s["w_x"] = source.randrange(top) if s["w_to"] else 0
    if s["ended"]:
        return s
    if source.randrange(3):
        place = source.randrange(min(len(program) + 1, top))
        word = at(program, place)
        held = plain_meaning(shape, s, memory, program)[1]
        values = [held[number] for number in read_numbers(shape, word)] + [0, 0]
        right = source.choice(((place + 1) % top, source.randrange(min(top, 20))))
        s.update(x_on=1, x_pc=place, x_word=word, x_one=values[0], x_two=values[1], x_next=right, pc=right)
        if is_long(word, values[1]) and source.randrange(4):
            left = source.randrange(shape.width + 1)
            k, one, two = shape.width - left, values[0], values[1]
            right = (one * (two >> left), two << k) if word % 64 == 4 else (
                (one >> left) % two, (one << k) + (one >> left) // two)
            s.update(u_on=1, u_left=left, u_one=right[0] % top, u_two=right[1] % top)
    if source.randrange(3):
        place = s["x_next"] if s["x_on"] else source.randrange(min(len(program) + 1, top))
        guess = source.choice(((place + 1) % top, source.randrange(min(top, 20))))
        s.update(d_on=1, d_pc=place, d_word=at(program, place), d_next=guess, pc=guess)
    return s


class SquareTest(unittest.TestCase):
    """[13.7]: what a beat is from a kept state, with the pipe and the meaning by the tests' own words."""

    def check_beat(self, shape, state, memory, program, choice):
        self.assertIs(is_kept(shape, state, memory, program), True, state)
        self.assertTrue(is_kept_by_words(shape, state, memory, program), state)
        guess, ready, bell = choice
        told = square(shape, state, memory, program, choice)
        check_own_kinds(self, told[1:])
        word, behind, later = told
        data = memory.get(state["m_x"], 0)
        right, wires = pipe_step(shape, state, at(program, state["pc"]), (guess, ready, data, bell))
        self.assertEqual(behind, right)
        waits = state["m_kind"] in (1, 2) and not ready
        writes = state["m_kind"] == 2 and not waits
        self.assertEqual(later, store(memory, state["m_x"], state["m_y"]) if writes else memory)
        if len(later) <= 1000:
            self.assertIs(is_kept(shape, behind, later, program), True, (state, behind))
        plain, next_plain = meaning(shape, state, memory, program), meaning(shape, behind, later, program)
        if waits:
            self.assertEqual((word, behind, wires["done"]), ("wait", state, 0))
        elif wires["done"]:
            self.assertEqual(word, "bell" if wires["rang"] else "step")
            step = plain.step(wires["rang"])
            self.assertEqual(told_meaning(next_plain), told_meaning(step))
            self.assertEqual(step.outputs, (wires["put_word"],) if wires["put"] else ())
            self.assertEqual(wires["rang"] == 1, bell == 1 and plain.step(1) != plain.step(0))
            self.assertEqual(wires["done_pc"], plain.pc)
        else:
            self.assertEqual(word, "inner")
            self.assertEqual(next_plain, plain)
            if not state["ended"]:
                self.assertLess(rank(shape, behind), rank(shape, state))
        return told

    def test_runs(self):
        source = random_source(1)
        words = {}
        for _ in range(120):
            shape = source.choice(SHAPES)
            program, memory = some_program(source, source.randrange(1, 16)), some_memory(source, shape)
            state = first_pipe(shape)
            for _ in range(70):
                right = (state["pc"] + 1) % (1 << shape.width)
                choice = (source.choice((right, right, source.randrange(4))), int(source.randrange(4) > 0),
                          source.randrange(2))
                word, state, memory = self.check_beat(shape, state, memory, program, choice)
                words[word] = words.get(word, 0) + 1
        self.assertEqual(sorted(words), ["bell", "inner", "step", "wait"])
        self.assertGreater(min(words.values()), 30)

    def test_kept_states_to_which_no_run_leads(self):
        source = random_source(2)
        words = {}
        for _ in range(3000):
            shape = source.choice(SHAPES)
            program, memory = some_program(source, source.randrange(1, 16)), some_memory(source, shape)
            state = some_kept(source, shape, program, memory)
            choice = (source.randrange(1 << shape.width), source.randrange(2), source.randrange(2))
            word, _, _ = self.check_beat(shape, state, memory, program, choice)
            words[word] = words.get(word, 0) + 1
        self.assertGreater(min(words.values()), 50)

    def test_the_last_write_stands_still_in_memory(self):
        # The end in work, while memory and write still hold something.
        program = (step_word(9, 1) | 5, step_word(11, 1, 0, 3), step_word(15))
        state, memory, seen = first_pipe(BYTE), {}, []
        for ready in (1, 1, 1, 1, 0, 0, 1, 1, 0):
            word, state, memory = self.check_beat(BYTE, state, memory, program, (state["pc"] + 1, ready, 1))
            seen.append(word)
        self.assertEqual(seen, ["inner", "inner", "step", "step", "wait", "wait", "step", "inner", "inner"])
        self.assertEqual((memory, state["ended"], state["r1"]), ({3: 5}, 1, 5))

    def test_great_memories(self):
        shape = Shape(16, 2)
        full = {place + 5: 1 for place in range(1000)}
        state = state_with(shape, m_kind=2, m_x=3, m_y=7)
        plain = meaning(shape, state, full, (0,))
        self.assertEqual(plain.memory, {3: 7, **full})
        self.assertEqual(list(plain.memory)[0], 3)
        word, behind, memory = square(shape, state, full, (0,), (1, 1, 0))
        self.assertEqual((word, len(memory)), ("inner", 1001))
        self.assertEqual(len(drained(shape, state, full)[1]), 1001)
        expect(self, InvalidMemory, None, is_kept, shape, behind, memory, (0,))
        erased = square(shape, {**state, "m_x": 5, "m_y": 0}, full, (0,), (1, 1, 0))[2]
        self.assertEqual(len(erased), 999)

    def test_refused(self):
        state = state_with(SMALL, d_pc=1)
        expect(self, Refused, ("kept",), square, SMALL, state, {}, (0,), (0, 1, 0))
        expect(self, InvalidChoice, None, square, SMALL, state, {}, (0,), (0, 1))


class MeaningTest(unittest.TestCase):
    def test_any_state(self):
        source = random_source(3)
        for shape in SHAPES:
            for _ in range(150):
                program, memory = some_program(source, 5), some_memory(source, shape)
                state = some_pipe(source, shape)
                plain = meaning(shape, state, memory, program)
                self.assertIsInstance(plain, Plain)
                self.assertEqual(told_meaning(plain), plain_meaning(shape, state, memory, program))
                self.assertEqual((plain.shape, plain.program, plain.outputs), (shape, program, ()))
                check_own_kinds(self, told_meaning(plain))

    def test_nearer_places_go_ahead(self):
        state = state_with(BYTE, r1=1, r2=2, r3=3, w_to=1, w_x=11, m_to=1, m_x=12)
        self.assertEqual(meaning(BYTE, state, {12: 99}, (0,)).registers, (0, 12, 2, 3))
        self.assertEqual(meaning(BYTE, {**state, "m_kind": 1}, {12: 99}, (0,)).registers, (0, 99, 2, 3))
        self.assertEqual(meaning(BYTE, {**state, "m_kind": 2}, {12: 99}, (0,)).registers, (0, 11, 2, 3))
        self.assertEqual(meaning(BYTE, {**state, "m_kind": 3}, {12: 99}, (0,)).registers, (0, 12, 2, 3))
        self.assertEqual(meaning(BYTE, {**state, "m_kind": 2, "m_y": 5}, {12: 99}, (0,)).memory, {12: 5})
        self.assertEqual(meaning(BYTE, {**state, "m_kind": 2}, {12: 99}, (0,)).memory, {})

    def test_drained(self):
        source = random_source(4)
        for shape in SHAPES:
            for _ in range(60):
                program, memory = some_program(source, 9), some_memory(source, shape)
                state = source.choice((some_pipe(source, shape), some_kept(source, shape, program, memory)))
                told, later = drained(shape, state, memory)
                check_own_kinds(self, (told, later))
                plain = meaning(shape, state, memory, program)
                self.assertEqual(later, plain.memory)
                self.assertEqual(tuple(told[name] for name in register_names(shape)), plain.registers[1:])
                self.assertEqual(meaning(shape, told, later, program), plain)
                for name in state:
                    if name not in register_names(shape):
                        self.assertEqual(told[name], 0 if name[:2] in ("m_", "w_") else state[name])
                self.assertIs(is_pipe(shape, told), True)
                if is_kept(shape, state, memory, program):
                    self.assertIs(is_kept(shape, told, later, program), True)

    def test_ranks(self):
        source = random_source(5)
        for shape in SHAPES:
            for _ in range(200):
                state = some_pipe(source, shape)
                self.assertEqual(rank(shape, state), rank_by_words(shape, state))
        self.assertEqual(rank(SMALL, first_pipe(SMALL)), 8)
        for told, right in (({}, 12), ({"d_on": 1}, 2), ({"d_on": 1, "d_word": TIMES}, 11), ({"d_on": 1, "d_word": PART}, 11),
                            ({"x_on": 1}, 1), ({"x_on": 1, "x_word": TIMES}, 10), ({"x_on": 1, "x_word": PART}, 1),
                            ({"x_on": 1, "x_word": PART, "x_two": 1}, 10), ({"x_on": 1, "x_word": TIMES, "u_on": 1}, 1),
                            ({"x_on": 1, "x_word": TIMES, "u_on": 1, "u_left": 8}, 9), ({"x_on": 1, "ended": 1}, 0),
                            ({"x_on": 1, "x_word": SET, "u_on": 1, "u_left": 8}, 1), ({"x_on": 1, "d_on": 1}, 1)):
            self.assertEqual(rank(BYTE, state_with(BYTE, **told)), right, told)

    def test_examples(self):
        self.assertEqual(
            [reads_of(SMALL, PROGRAM[1]), is_long_word(15 << 12 | 4, 0), is_long_word(15 << 12 | 5, 0),
             rank(SMALL, first_pipe(SMALL))], [(1,), True, False, 8])
        self.assertIs(is_kept(SMALL, first_pipe(SMALL), MEMORY, PROGRAM), True)
        self.assertEqual(meaning(SMALL, first_pipe(SMALL), MEMORY, PROGRAM), Plain(SMALL, PROGRAM))


class KeptTest(unittest.TestCase):
    # A product that has gone three rounds, with a step in decode, a load in memory and something to be written.
    PROGRAM = (TIMES, PUT, LOAD)
    MEMORY = {9: 77}
    STATE = state_with(
        BYTE, pc=2, r1=5, r2=6, d_on=1, d_pc=1, d_word=PUT, d_next=2, x_on=1, x_word=TIMES, x_one=200, x_two=77, x_next=1,
        u_on=1, u_left=5, u_one=200 * (77 >> 5) % 256, u_two=(77 << 3) % 256, m_kind=1, m_to=2, m_x=9, w_to=1, w_x=200)

    def kept(self, **told):
        state = {**self.STATE, **told}
        right = is_kept_by_words(BYTE, state, self.MEMORY, self.PROGRAM)
        self.assertIs(is_kept(BYTE, state, self.MEMORY, self.PROGRAM), right, told)
        return right

    def test_each_clause_by_itself(self):
        self.assertTrue(self.kept())
        for name, bits in pipe_fields(BYTE).items():
            for bit in range(bits):
                self.kept(**{name: self.STATE[name] ^ 1 << bit})
        for name, value in (("d_pc", 2), ("d_word", LOAD), ("d_next", 3), ("pc", 3), ("x_pc", 1), ("x_word", PART),
                            ("x_one", 201), ("x_two", 76), ("x_next", 2), ("u_one", 1), ("u_two", 1), ("u_left", 9),
                            ("u_left", 31), ("m_y", 1), ("m_x", 8), ("m_kind", 2), ("m_kind", 3), ("m_kind", 0), ("w_x", 0),
                            ("w_to", 0), ("w_to", 3), ("ended", 1), ("x_on", 0), ("d_on", 0), ("u_on", 0)):
            self.assertFalse(self.kept(**{name: value}), name)
        self.assertTrue(self.kept(r3=9))
        self.assertTrue(self.kept(r1=9))
        self.assertTrue(self.kept(saved=9, allowed=1))

    def test_more_clauses(self):
        off = {"u_on": 0, "u_left": 0, "u_one": 0, "u_two": 0}
        self.assertTrue(self.kept(**off))
        for name in ("u_left", "u_one", "u_two"):
            self.assertFalse(self.kept(**{**off, name: 1}), name)
        alone = {"d_on": 0, "d_pc": 0, "d_word": 0, "d_next": 0}
        self.assertTrue(self.kept(**alone, pc=1))
        self.assertFalse(self.kept(**alone))
        for name in ("d_pc", "d_word", "d_next"):
            self.assertFalse(self.kept(**{**alone, "pc": 1, name: 1}), name)
        idle = {**off, "x_on": 0, "x_pc": 0, "x_word": 0, "x_one": 0, "x_two": 0, "x_next": 0}
        self.assertTrue(self.kept(**idle))
        for name in idle:
            self.assertFalse(self.kept(**{**idle, name: 1}), name)
        self.assertTrue(self.kept(**idle, m_kind=2, m_to=0, m_y=4))
        self.assertFalse(self.kept(**idle, m_kind=2, m_to=1, m_y=4))
        self.assertTrue(self.kept(**idle, m_kind=0, m_to=1))
        self.assertTrue(self.kept(**idle, m_kind=0, m_to=0, m_x=0))
        self.assertFalse(self.kept(**idle, m_kind=0, m_to=0, m_x=1))
        self.assertFalse(self.kept(**idle, m_kind=3))
        self.assertFalse(self.kept(**idle, m_kind=3, m_to=0, m_x=0))
        self.assertTrue(self.kept(**idle, m_kind=1, m_to=0))
        self.assertTrue(self.kept(**idle, w_to=0, w_x=0))
        self.assertFalse(self.kept(**idle, w_to=0, w_x=1))
        self.assertFalse(self.kept(**idle, ended=1))
        self.assertTrue(self.kept(**{**idle, **alone}, ended=1))
        self.assertTrue(self.kept(**{**idle, **alone}, ended=3, pc=99))
        for left in range(32):
            self.kept(u_left=left)

    def test_rounds(self):
        for c, left in itertools.product((4, 5, 6), range(9)):
            program = (step_word(15, 1, 2, c), PUT)
            state = state_with(BYTE, pc=1, r1=213, r2=19, x_on=1, x_word=program[0], x_one=213, x_two=19, x_next=1, u_on=1,
                               u_left=left)
            kept = 0
            for one, two in itertools.product(range(0, 256, 3), range(256)):
                told = {**state, "u_one": one, "u_two": two}
                right = is_kept_by_words(BYTE, told, {}, program)
                kept += right
                if right or two % 16 == 0:
                    self.assertEqual(is_kept(BYTE, told, {}, program), right)
            self.assertLessEqual(kept, 1)
        self.assertFalse(is_kept(BYTE, {**state, "x_two": 0, "r2": 0}, {}, program))

    def test_drawn_states(self):
        source = random_source(6)
        kept = 0
        for _ in range(3000):
            shape = source.choice(SHAPES)
            program, memory = some_program(source, 9), some_memory(source, shape)
            state = some_kept(source, shape, program, memory)
            self.assertIs(is_kept(shape, state, memory, program), True)
            for name in source.sample(sorted(state), source.randrange(1, 3)):
                state[name] = source.choice((0, state[name] ^ 1))
            right = is_kept_by_words(shape, state, memory, program)
            self.assertIs(is_kept(shape, state, memory, program), right)
            kept += right
            other = some_pipe(source, shape)
            self.assertEqual(is_kept(shape, other, memory, program), is_kept_by_words(shape, other, memory, program))
        self.assertTrue(300 < kept < 2700)

    def test_what_is_not_true(self):
        # Two kept states with one meaning, of which one does a step at the next beat and the other does not.
        program = (SET, PUT, step_word(15))
        full = state_with(BYTE, pc=1, x_on=1, x_word=SET, x_next=1)
        self.assertEqual(meaning(BYTE, full, {}, program), meaning(BYTE, first_pipe(BYTE), {}, program))
        self.assertEqual(square(BYTE, full, {}, program, (2, 1, 0))[0], "step")
        self.assertEqual(square(BYTE, first_pipe(BYTE), {}, program, (2, 1, 0))[0], "inner")
        loose = {**first_pipe(BYTE), "d_pc": 7}
        self.assertFalse(is_kept(BYTE, loose, {}, program))
        self.assertEqual(meaning(BYTE, loose, {}, program), Plain(BYTE, program))

    def test_errors(self):
        memories = WRONG_MEMORIES + [None]
        wrong = [(0, InvalidShape, WRONG_SHAPES), (1, InvalidState, STATES), (2, InvalidMemory, memories),
                 (3, InvalidProgram, WRONG_PROGRAMS)]
        good = (SMALL, first_pipe(SMALL), {1: 2}, (0,))
        check_refused(self, meaning, good, wrong)
        check_refused(self, is_kept, good, wrong)
        check_refused(self, square, (*good, (3, 1, 0)), [*wrong, (4, InvalidChoice, CHOICES)])
        check_refused(self, rank, good[:2], wrong[:2])
        check_refused(self, drained, good[:3], wrong[:3])
        great = {place: 1 for place in range(1001)}
        expect(self, InvalidMemory, None, drained, Shape(16, 2), first_pipe(Shape(16, 2)), great)


if __name__ == "__main__":
    unittest.main()
