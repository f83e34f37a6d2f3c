"""Beats counted [16.1] to [16.5]."""

import itertools
import unittest

from machines_made import (
    SHAPES, ahead_of_all, at, is_long, parts_of, pipe_step, plain_step, read_numbers, some_memory, some_program, step_word, store)
from support import alike, check_own_kinds, check_refused, error_of, expect, numbers_but, odd_but, random_source
from test_machine import WRONG_MEMORIES, WRONG_PROGRAMS, WRONG_SHAPES
from test_meaning import CHOICES
from truebeat.core import counts as module
from truebeat.core.counts import choices_for, counted, fewest_beats, most_beats, record
from truebeat.core.pipe import first_pipe
from truebeat.errors import (
    InvalidChoice, InvalidMemory, InvalidNumber, InvalidProgram, InvalidShape, Refused, TooMany)
from truebeat.plain.shapes import Shape

SMALL, BYTE = Shape(4, 2), Shape(8, 4)
SET, PUT, LOAD, STORE = step_word(9, 1) | 3, step_word(15, 1, 0, 1), step_word(10, 1, 0, 2), step_word(11, 1, 0, 2)
ALLOW, TIMES, PART, END, WORD = (step_word(15, 1, 1, c) for c in (3, 4, 5, 0, 9))
LOOP = step_word(12, 0, 0, 0)
RUN_WRONG = [(0, InvalidShape, WRONG_SHAPES), (1, InvalidProgram, WRONG_PROGRAMS), (2, InvalidMemory, WRONG_MEMORIES + [None])]
ROWS_WRONG = [value for value in odd_but(()) if value != (0, 0, 0)] + [(choice,) for choice in CHOICES] + [
    [(0, 1, 0)], (0, 1, 0), ((0, 1, 0),) * 3001]
TRIPLES_WRONG = [value for value in odd_but(()) if value != (0, 0, 0)] + [(triple,) for triple in (
    *odd_but((0, 0, 0)), (0, 0), (0, 0, 0, 0), (2, 0, 0), (0, 2, 0), (0, 0, 3001), (0, 0, -1), (True, 0, 0), (0, False, 0),
    (0, 0, True), (0, 0, None), [0, 0, 0])] + [[(0, 0, 0)], (0, 0, 0), ((0, 0, 0),) * 3001]


def record_by_words(shape, program, memory, choices):
    """The marks of a told run, by the tests' own pipe, what is wrong by the tests' own plain machine."""
    s, memory, marks, m = first_pipe(shape), dict(memory), [], {**ahead_of_all(shape), "memory": memory}
    for beat, (guess, ready, bell) in enumerate(choices, 1):
        waits = s["m_kind"] in (1, 2) and not ready
        data = memory.get(s["m_x"], 0) if s["m_kind"] == 1 else 0
        n, wires = pipe_step(shape, s, at(program, s["pc"]), (guess, ready, data, bell))
        if waits:
            marks[-1][4] += 1
        elif s["m_kind"] == 2:
            memory = store(memory, s["m_x"], s["m_y"])
        if wires["done"]:
            goal, _ = plain_step(shape, program, m)
            wrong = not wires["rang"] and not goal["ended"] and s["x_next"] != goal["pc"]
            m, _ = plain_step(shape, program, m, wires["rang"])
            marks.append([beat, s["x_pc"], int(wrong), wires["rang"], 0])
        s = n
    return tuple(map(tuple, marks))


def counted_by_words(shape, program, memory, told):
    """The beats by the words of [16.2], or the pair of the word and the index of a refusal."""
    m, now, late, loaded, beats = {**ahead_of_all(shape), "memory": dict(memory)}, 0, 2, 0, []
    for index, (wrong, rang, waited) in enumerate(told):
        if m["ended"]:
            return "ended", index
        word = at(program, m["pc"])
        op, a, _, _ = parts_of(word)
        numbers = read_numbers(shape, word)
        now += shape.width + 2 if is_long(word, m["held"][numbers[1]] if len(numbers) > 1 else 0) else 1
        if late:
            now += 2
        elif loaded and loaded in numbers:
            now += 1
        beats.append(now)
        m, taken = plain_step(shape, program, m, rang)
        if rang and not taken:
            return "bell", index
        if wrong and (rang or m["ended"]):
            return "wrong", index
        if waited and op not in (10, 11):
            return "waited", index
        now += waited
        late = wrong or rang
        loaded = a % shape.registers if op == 10 else 0
    return tuple(beats)


def some_choices(source, shape, many):
    top = min(1 << shape.width, 17)
    ready, bell = source.choice((2, 4, 9)), source.choice((2, 4, 9))
    return tuple((source.randrange(top), int(source.randrange(ready) > 0), int(source.randrange(bell) == 0))
                 for _ in range(many))


def some_told(source, shape, program, memory, many):
    """A row of triples that is not refused."""
    told = []
    for _ in range(many):
        triple = (int(source.randrange(3) == 0), int(source.randrange(3) == 0), source.choice((0, 0, 1, 4)))
        wrong, rang, waited = triple
        for one in (triple, (0, rang, waited), (wrong, 0, waited), (0, rang, 0), (wrong, 0, 0), (0, 0, waited), (0, 0, 0)):
            if not isinstance(counted_by_words(shape, program, memory, [*told, one])[0], str):
                told.append(one)
                break
    return tuple(told)


class RecordTest(unittest.TestCase):
    def test_constant(self):
        self.assertEqual(module.MOST_COUNTED, 3000)

    def test_example(self):
        program = (9 << 12 | 1 << 9 | 2, 8 << 12 | 1 << 9 | 1 << 6 | 63, 13 << 12 | 1 << 6 | 63, 15 << 12)
        choices = ((1, 1, 0), (2, 1, 0), (3, 1, 0), (0, 1, 0), (0, 1, 0), (2, 1, 0))
        self.assertTrue(alike(record(SMALL, program, {}, choices), ((3, 0, 0, 0, 0), (4, 1, 0, 0, 0), (5, 2, 1, 0, 0))))

    def test_drawn(self):
        """[16.1], and [16.3] of each told run, whose triples lead to such a run again."""
        source = random_source(1)
        seen = {"wrong": 0, "rang": 0, "waited": 0, "marks": 0, "both": 0}
        for turn in range(1200):
            shape = SHAPES[turn % len(SHAPES)]
            program, memory = some_program(source, source.randrange(1, 16)), some_memory(source, shape)
            choices = some_choices(source, shape, source.randrange(90))
            marks = record(shape, program, memory, choices)
            self.assertTrue(alike(marks, record_by_words(shape, program, memory, choices)), (str(shape), program, choices))
            told = tuple(mark[2:] for mark in marks)
            self.assertEqual(counted(shape, program, memory, told), tuple(mark[0] for mark in marks))
            again = choices_for(shape, program, memory, told)
            self.assertEqual(record(shape, program, memory, again), marks)
            for _, _, wrong, rang, waited in marks:
                seen["wrong"] += wrong
                seen["rang"] += rang
                seen["waited"] += waited > 0
                seen["both"] += waited > 0 and (wrong or rang)
            seen["marks"] += len(marks)
        self.assertTrue(all(many > 100 for many in seen.values()), seen)

    def test_kinds(self):
        """A step held behind a load, a long step, waits that end the run, an end behind a store, and both faults."""
        self.assertEqual(record(BYTE, (LOAD, PUT, END), {2: 7}, ((1, 1, 0), (2, 1, 0), (3, 1, 0)) + ((3, 1, 0),) * 9),
                         ((3, 0, 0, 0, 0), (5, 1, 0, 0, 0), (6, 2, 0, 0, 0)))
        waits = ((1, 1, 0), (2, 1, 0), (3, 1, 0)) + ((3, 0, 0),) * 4
        self.assertEqual(record(BYTE, (LOAD, PUT, END), {}, waits), ((3, 0, 0, 0, 4),))
        self.assertEqual(record(BYTE, (STORE, END), {}, waits + ((3, 1, 1), (0, 0, 0))), ((3, 0, 0, 0, 4), (8, 1, 0, 0, 0)))
        self.assertEqual(record(BYTE, (TIMES, WORD), {}, ((1, 1, 0),) * 20), ((12, 0, 0, 0, 0), (13, 1, 0, 0, 0)))
        self.assertEqual(record(BYTE, (PART,), {}, ((0, 1, 1),) * 20), ((3, 0, 0, 0, 0),))
        self.assertEqual(record(BYTE, (SET, ALLOW, SET, END), {}, ((1, 1, 1), (2, 1, 1), (3, 1, 1), (3, 1, 1)) + ((2, 1, 1),) * 3),
                         ((3, 0, 0, 0, 0), (4, 1, 0, 1, 0), (7, 1, 0, 1, 0)))
        self.assertEqual(record(BYTE, (SET,), {}, ()), ())

    def test_what_is_stored_is_loaded(self):
        """A branch by a word that was stored ahead, also where it takes the place of one of the memory."""
        load, same = step_word(10, 2, 0, 2), step_word(12, 1, 2, 2)
        for program, memory, taken in (((SET, STORE, load, same, PUT, END), {}, 1), ((SET, STORE, load, same, PUT, END), {2: 9}, 1),
                                       ((SET, step_word(11, 0, 0, 2), load, same, PUT, END), {2: 3}, 0), ((SET, PUT, load, same, PUT, END), {2: 3}, 1)):
            choices = tuple((place, 1, 0) for place in (1, 2, 3, 4, 5, 5)) + ((5, 1, 0),) * 9
            marks = record(BYTE, program, memory, choices)
            self.assertEqual(marks, record_by_words(BYTE, program, memory, choices))
            self.assertEqual([mark[1:3] for mark in marks][3], (3, taken))
            self.assertEqual(counted(BYTE, program, memory, tuple(mark[2:] for mark in marks)), tuple(mark[0] for mark in marks))

    def test_the_edge(self):
        self.assertEqual(len(record(BYTE, (LOOP,), {}, ((0, 1, 0),) * 3000)), 2998)
        self.assertEqual(len(record(BYTE, (LOOP,), {}, ((1, 1, 0),) * 3000)), 1000)

    def test_errors(self):
        check_refused(self, record, (SMALL, (SET,), {1: 2}, ((1, 1, 0),)), [*RUN_WRONG, (3, InvalidChoice, ROWS_WRONG)])


class CountedTest(unittest.TestCase):
    def check_counted(self, shape, program, memory, told):
        right = counted_by_words(shape, program, memory, told)
        if right and isinstance(right[0], str):
            for function in (counted, choices_for):
                expect(self, Refused, right, function, shape, program, memory, told)
            return right[0]
        self.assertTrue(alike(counted(shape, program, memory, told), right), (program, told))
        return None

    def test_each_row_that_is_not_refused(self):
        """The second half of [16.3]: choices for it, and their record."""
        source = random_source(2)
        for turn in range(600):
            shape = SHAPES[turn % len(SHAPES)]
            program, memory = some_program(source, source.randrange(1, 16)), some_memory(source, shape)
            told = some_told(source, shape, program, memory, source.randrange(1, 20))
            self.assertIsNone(self.check_counted(shape, program, memory, told))
            choices = choices_for(shape, program, memory, told)
            check_own_kinds(self, choices)
            marks = record_by_words(shape, program, memory, choices)
            self.assertEqual(tuple(mark[2:] for mark in marks), told)
            self.assertEqual(len(choices), marks[-1][0] + marks[-1][4] if marks else 0)
            self.assertEqual(record(shape, program, memory, choices), marks)

    def test_refused_rows(self):
        source = random_source(3)
        words = {}
        for turn in range(1500):
            shape = SHAPES[turn % len(SHAPES)]
            program, memory = some_program(source, source.randrange(1, 8)), some_memory(source, shape)
            told = some_told(source, shape, program, memory, source.randrange(1, 6))
            if told:
                index = source.randrange(len(told))
                other = tuple(source.choice((0, 1)) for _ in range(3))
                told = told[:index] + (other,) + told[index + 1:]
            word = self.check_counted(shape, program, memory, told + ((0, 0, 0),) * source.randrange(2))
            words[word] = words.get(word, 0) + 1
        self.assertTrue(all(words.get(word, 0) > 20 for word in (None, "ended", "bell", "wrong", "waited")), words)

    def test_all_small_rows(self):
        """All rows of up to three triples of a program with each kind of step: refused, or of a told run."""
        triples = list(itertools.product((0, 1), (0, 1), (0, 2)))
        for program in ((SET, ALLOW, LOAD), (SET, PUT, END), (LOAD, TIMES, PART), (STORE, WORD), (ALLOW, END), (PART, SET)):
            for many in (1, 2, 3):
                for told in itertools.product(triples, repeat=many):
                    if self.check_counted(SMALL, program, {2: 3}, told) is None:
                        choices = choices_for(SMALL, program, {2: 3}, told)
                        marks = record_by_words(SMALL, program, {2: 3}, choices)
                        self.assertEqual(tuple(mark[2:] for mark in marks), told)

    def test_words_and_their_order(self):
        good = (0, 0, 0)
        for program, told, right in (
                ((SET, END), (good, good, good), ("ended", 2)), ((SET, END), (good, good, (1, 1, 1)), ("ended", 2)),
                ((SET, END), ((1, 1, 1),), ("bell", 0)), ((SET, END), ((0, 1, 1),), ("bell", 0)),
                ((SET, END), (good, (1, 1, 1)), ("bell", 1)), ((SET, END), (good, (1, 0, 1)), ("wrong", 1)),
                ((WORD,), ((1, 0, 0),), ("wrong", 0)), ((PART,), ((1, 0, 0),), ("wrong", 0)), ((SET,), ((1, 0, 1),), ("waited", 0)),
                ((SET, ALLOW), (good, (1, 1, 1)), ("wrong", 1)), ((SET, ALLOW), (good, (0, 1, 1)), ("waited", 1)),
                ((SET, ALLOW), (good, good, (0, 1, 0)), ("bell", 2)), ((), (good, (0, 0, 1)), ("ended", 1))):
            program = program + (WORD,)
            self.assertEqual(counted_by_words(BYTE, program, {}, told), right)
            self.check_counted(BYTE, program, {}, told)

    def test_kinds(self):
        good = (0, 0, 0)
        for program, told, right in (
                ((SET,), (good,), (3,)), ((LOAD, PUT), (good, good), (3, 5)), ((LOAD, PUT), ((1, 0, 0), good), (3, 6)),
                ((LOAD, PUT), ((0, 0, 7), good), (3, 12)), ((LOAD, SET, PUT), (good, good, good), (3, 4, 5)),
                ((TIMES, PUT), (good, good), (12, 13)), ((PART,), (good,), (3,)), ((SET, PART), (good, good), (3, 13)),
                ((step_word(10, 0, 0, 1), step_word(15, 0, 0, 1)), (good, good), (3, 4)),
                ((step_word(10, 4, 0, 1), step_word(15, 0, 0, 1)), ((0, 0, 3000), good), (3, 3004)),
                ((step_word(10, 5, 0, 1), step_word(0, 2, 1, 1)), (good, good), (3, 5)),
                ((SET, ALLOW, LOAD, PUT), (good, (0, 1, 0), (0, 1, 0), good), (3, 4, 7, 10)),
                ((STORE, PUT), ((0, 0, 2), good), (3, 6)), ((SET,), (), ())):
            self.assertEqual(counted(BYTE, program, {2: 5}, told), right, program)
            self.assertEqual(counted_by_words(BYTE, program, {2: 5}, told), right, program)

    def test_too_many_beats(self):
        good = (0, 0, 0)
        self.assertEqual(counted(BYTE, (LOOP,), {}, (good,) * 3000)[-1], 3002)
        self.assertEqual(len(choices_for(BYTE, (LOOP,), {}, (good,) * 2998)), 3000)
        expect(self, TooMany, 3000, choices_for, BYTE, (LOOP,), {}, (good,) * 2999)
        self.assertEqual(len(choices_for(BYTE, (LOAD,), {}, ((0, 0, 2997),))), 3000)
        expect(self, TooMany, 3000, choices_for, BYTE, (LOAD,), {}, ((0, 0, 2998),))
        expect(self, Refused, ("waited", 1), choices_for, BYTE, (LOAD, SET), {}, ((0, 0, 2998), (0, 0, 1)))
        self.assertEqual(counted(BYTE, (LOAD, STORE), {}, ((0, 0, 3000),) * 2), (3, 3005))
        self.assertEqual(choices_for(BYTE, (SET,), {}, ()), ())

    def test_errors(self):
        good = (SMALL, (SET, LOAD), {1: 2}, ((0, 0, 0), (1, 0, 2)))
        for function in (counted, choices_for):
            check_refused(self, function, good, [*RUN_WRONG, (3, InvalidChoice, TRIPLES_WRONG)])


class BoundsTest(unittest.TestCase):
    def test_against_runs(self):
        """[16.4]: over all told runs without bells of so many beats of small programs."""
        for program, guesses, wait in (((SET, step_word(12, 1, 1, 2), PUT, END), (1, 2, 3), 0), ((LOAD, PUT), (1, 2), 1),
                                       ((STORE, LOAD, END), (1, 2), 2)):
            beats = 7
            found = {}
            for choices in itertools.product(itertools.product(guesses, (0, 1) if wait else (1,), (0,)), repeat=beats):
                marks = record(SMALL, program, {}, choices)
                if all(mark[4] <= wait for mark in marks):
                    for number, mark in enumerate(marks, 1):
                        found.setdefault(number, set()).add(mark[0])
            self.assertGreater(len(found), 1)
            for number, done in found.items():
                self.assertEqual(fewest_beats(SMALL, program, {}, number), min(done))
                most = most_beats(SMALL, program, {}, number, wait)
                self.assertTrue(max(done) == most or most > beats, (program, number))

    def test_drawn(self):
        source = random_source(4)
        refused = 0
        for turn in range(500):
            shape = SHAPES[turn % len(SHAPES)]
            program, memory = some_program(source, source.randrange(1, 16)), some_memory(source, shape)
            steps, wait = source.randrange(1, 30), source.randrange(21)
            m, told, long = {**ahead_of_all(shape), "memory": dict(memory)}, [], []
            for _ in range(steps):
                if m["ended"]:
                    break
                asks = parts_of(at(program, m["pc"]))[0] in (10, 11)
                m, _ = plain_step(shape, program, m)
                told.append((0, 0, 0))
                long.append((int(not m["ended"]), 0, wait if asks else 0))
            if len(told) < steps:
                refused += 1
                expect(self, Refused, ("ended", len(told)), fewest_beats, shape, program, memory, steps)
                expect(self, Refused, ("ended", len(told)), most_beats, shape, program, memory, steps, wait)
                steps = len(told)
            told, long = tuple(told[:steps]), tuple(long[:steps])
            self.assertEqual(fewest_beats(shape, program, memory, steps), counted_by_words(shape, program, memory, told)[-1])
            self.assertEqual(most_beats(shape, program, memory, steps, wait), counted_by_words(shape, program, memory, long)[-1])
        self.assertTrue(20 < refused < 480)

    def test_edges(self):
        self.assertEqual(fewest_beats(BYTE, (LOOP,), {}, 3000), 3002)
        self.assertEqual(most_beats(BYTE, (LOOP,), {}, 3000, 20), 9000)
        self.assertEqual(most_beats(BYTE, (LOAD, LOOP), {}, 2, 20), 26)
        self.assertEqual((fewest_beats(BYTE, (SET, END), {}, 2), most_beats(BYTE, (SET, END), {}, 2, 0)), (4, 6))

    def test_errors(self):
        good = (SMALL, (SET, LOAD, LOOP), {1: 2}, 3)
        wrong = [*RUN_WRONG, (3, InvalidNumber, numbers_but(1, 3000))]
        check_refused(self, fewest_beats, good, wrong)
        check_refused(self, most_beats, (*good, 4), [*wrong, (4, InvalidNumber, numbers_but(0, 20))])
        expect(self, InvalidNumber, 21, most_beats, SMALL, (END,), {}, 2, 21)

    def test_not_true(self):
        """[16.5]: waits beside a long step cost beats; runs with equally many of all end at unlike beats."""
        beats = [counted(BYTE, (LOAD, TIMES, PUT), {2: 1}, ((0, 0, wait), (0, 0, 0), (0, 0, 0)))[-1] for wait in (0, 3)]
        self.assertEqual(beats[1] - beats[0], 3)
        one = counted(BYTE, (LOAD, PUT, LOOP), {}, ((1, 0, 0), (0, 0, 0), (0, 0, 0)))
        other = counted(BYTE, (LOAD, PUT, LOOP), {}, ((0, 0, 0), (1, 0, 0), (0, 0, 0)))
        self.assertNotEqual(one[-1], other[-1])


if __name__ == "__main__":
    unittest.main()
