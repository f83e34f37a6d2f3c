"""Near lines [15.1] to [15.5]."""

import itertools
import unittest

from near_made import (
    SETTINGS, close_up, few_places, is_kept_by_words, near_step, open_up, some_ask, some_kept_near, some_near, some_words,
    store, words_by_words)
from support import alike, check_own_kinds, check_refused, error_of, expect, numbers_but, odd_but, random_source
from test_machine import WRONG_MEMORIES
from truebeat.errors import InvalidAsk, InvalidChoice, InvalidLines, InvalidMemory, InvalidNumber, Refused
from truebeat.near import lines as module
from truebeat.near.lines import Near, cleaned, is_kept_near, near_beat, near_run, near_words
from truebeat.plain.shapes import Shape

OFF = (False, 0, False, 0, 0)
NEAR_WRONG = odd_but() + [Shape(4, 2), (4, 1), Near]
LINE_WRONG = odd_but() + [
    (1, 0, False, 0, 0), (False, 0, 0, 0, 0), (True, 8, False, 0, 0), (True, -1, False, 0, 0), (True, True, False, 0, 0),
    (True, 0, False, 16, 0), (True, 0, False, 0, -1), (True, 0, False, True, 0), (True, 0, False, 0), (True, 0, False, 0, 0, 0),
    [True, 0, False, 0, 0], (True, None, False, 0, 0), (True, 0, None, 0, 0)]
LINES_WRONG = [value for value in odd_but(None)] + [(line, OFF) for line in LINE_WRONG] + [
    (OFF,), (OFF, OFF, OFF, OFF), [OFF, OFF], OFF]
TURNS_WRONG = odd_but(None) + [
    ("back", 0, 0), ("back", 0, 0, 0, 0), ("look", 0, 0, 0), ("back", 2, 0, 0), ("fill", 0, 2, 0), ("fill", 0, 0, 8),
    ("fill", 0, 0, -1), ("fill", True, 0, 0), ("fill", 0, False, 0), ("fill", 0, 0, True), ["back", 0, 0, 0], "fill"]
ASK_WRONG = odd_but(None) + [
    ("read",), ("read", 16), ("read", -1), ("read", True), ["read", 0], ("write", 1), ("write", 1, 16), ("write", 16, 1),
    ("read", 1, 2), ("write", 1, 2, 3), ("look", 1), ("write", True, 1), ("write", 1, False), ("read", "1"), ("read", 10 ** 70)]
ASKS_WRONG = odd_but(()) + [(ask,) for ask in ASK_WRONG] + [
    (None,), (("read", 0), None), [("read", 0)], ("read", 0), (("read", 0),) * 201]
CHOICE_WRONG = odd_but() + [(0,), (0, 0, 0), [0, 0], (2, 0), (0, 2), (True, 0), (0, False), (0, None), (0, -1), "01"]
CHOICES_WRONG = odd_but(()) + [(choice,) for choice in CHOICE_WRONG] + [[(0, 0)], (0, 0), ((0, 0),) * 5001]


class ClassTest(unittest.TestCase):
    def test_constants(self):
        self.assertEqual((module.MOST_SETS, module.MOST_ASKS, module.MOST_CHOICES), (8, 200, 5000))

    def test_first_lines(self):
        for sets in (1, 2, 4, 8):
            near = Near(4, sets)
            right = tuple((False, number, False, 0, 0) for number in range(sets) for _ in range(2))
            self.assertTrue(alike((near.width, near.sets, near.lines, near.turn), (4, sets, right, None)))
            self.assertEqual(str(near), f"near lines of {sets} sets, 0 on, idle")
            self.assertEqual(near, Near(4, sets, right, None))

    def test_any_lines(self):
        source = random_source(1)
        for width, sets in SETTINGS * 5:
            near = some_near(source, width, sets)
            again = Near(near.width, near.sets, near.lines, near.turn)
            self.assertTrue(near == again and not near != again)
            check_own_kinds(self, (near.width, near.sets, near.lines, near.turn))
            on = sum(line[0] for line in near.lines)
            self.assertEqual(str(near), f"near lines of {sets} sets, {on} on, {near.turn[0] if near.turn else 'idle'}")

    def test_equality(self):
        line = (True, 3, False, 1, 2)
        near = Near(5, 1, (line, OFF), ("fill", 1, 0, 5))
        for other in (Near(6, 1, (line, OFF), ("fill", 1, 0, 5)), Near(5, 1, (OFF, line), ("fill", 1, 0, 5)),
                      Near(5, 1, (line, OFF), ("fill", 1, 1, 5)), Near(5, 1, (line, OFF)), Near(5, 1),
                      Near(5, 1, ((True, 3, True, 1, 2), OFF), ("fill", 1, 0, 5)), Near(5, 2), *NEAR_WRONG):
            self.assertFalse(near == other)
            self.assertTrue(near != other)
        self.assertFalse(Near(5, 2) == Near(5, 4))
        with self.assertRaises(TypeError):
            list(near)

    def test_blocks_of_sets(self):
        for width, sets in SETTINGS:
            blocks = 1 << (width - 1)
            lines = list(Near(width, sets).lines)
            for number, block in itertools.product(range(sets), (0, 1, sets - 1, blocks - sets, blocks - 1, blocks)):
                told = tuple(lines[:2 * number] + [(False, block, False, 0, 0)] + lines[2 * number + 1:])
                if block < blocks and block % sets == number:
                    self.assertEqual(Near(width, sets, told).lines, told)
                else:
                    expect(self, InvalidLines, None, Near, width, sets, told)
            Near(width, sets, None, ("back", 1, 1, blocks - 1))
            expect(self, InvalidLines, None, Near, width, sets, None, ("back", 1, 1, blocks))

    def test_errors(self):
        good = (4, 1, (OFF, (True, 7, True, 15, 1)), ("fill", 0, 1, 7))
        wrong = [(0, InvalidNumber, numbers_but(4, 16)), (2, InvalidLines, LINES_WRONG), (3, InvalidLines, TURNS_WRONG)]
        check_refused(self, Near, good, wrong)
        sets = numbers_but(1, 8) + [0, 3, 5, 6, 7, 16]
        check_refused(self, Near, good, [wrong[0], (1, InvalidNumber, sets), *wrong[2:]])
        check_refused(self, Near, (5, 1), wrong[:1] + [(1, InvalidNumber, sets)])


class BeatTest(unittest.TestCase):
    def check_beat(self, near, memory, ask, choice):
        m = open_up(near, memory)
        answer = near_step(m, ask, *choice)
        before = (Near(near.width, near.sets, near.lines, near.turn), dict(memory))
        told = near_beat(near, memory, ask, choice)
        self.assertEqual(told, (*close_up(m), answer), (near.lines, near.turn, memory, ask, choice))
        self.assertEqual((near, memory), before)
        check_own_kinds(self, (told[0].lines, told[0].turn, *told[1:]))
        self.assertIsNot(told[1], memory)
        return told

    def test_drawn(self):
        source = random_source(2)
        for turn in range(4000):
            width, sets = SETTINGS[turn % len(SETTINGS)]
            near, memory = some_near(source, width, sets), some_words(source, width, sets)
            ask = source.choice((None, some_ask(source, width, sets), some_ask(source, width, sets)))
            self.check_beat(near, memory, ask, (source.randrange(2), source.randrange(2)))

    def test_each_kind_of_beat(self):
        memory = {0: 3, 1: 4, 10: 5}
        clean, dirty = (True, 2, False, 7, 8), (True, 3, True, 9, 0)
        near = Near(4, 1, (clean, dirty))
        for choice in itertools.product((0, 1), repeat=2):
            told = near_beat(near, memory, None, choice)
            self.assertEqual(told, (near, memory, None))
            self.assertEqual(near_beat(near, memory, ("read", 5), choice), (near, memory, ("read", 8)))
            self.assertEqual(near_beat(near, memory, ("read", 7), choice), (near, memory, ("read", 0)))
            told = near_beat(near, memory, ("write", 4, 1), choice)
            self.assertEqual(told, (Near(4, 1, ((True, 2, True, 1, 8), dirty)), memory, ("write",)))
            told = near_beat(near, memory, ("write", 1, 1), choice)
            lines, turn = (near.lines, ("back", 1, 0, 0)) if choice[1] else (
                ((False, 2, False, 7, 8), dirty), ("fill", 0, 0, 0))
            self.assertEqual(told, (Near(4, 1, lines, turn), memory, None))
            off = Near(4, 1, (clean, (False, 3, True, 9, 0)))
            self.assertEqual(near_beat(off, memory, ("read", 0), choice), (Near(4, 1, off.lines, ("fill", 1, 0, 0)), memory, None))
        double = Near(4, 1, ((True, 2, False, 1, 2), (True, 2, False, 3, 4)))
        self.assertEqual(near_beat(double, {}, ("read", 4), (1, 1))[2], ("read", 1))
        self.assertEqual(near_beat(Near(4, 1, ((False, 2, False, 1, 2), (True, 2, False, 3, 4))), {}, ("read", 4), (1, 0))[2],
                         ("read", 3))

    def test_each_part_of_each_turn(self):
        lines = ((True, 2, False, 7, 8), (True, 3, True, 9, 11))
        memory = {6: 1, 7: 2, 10: 5}
        near = Near(4, 1, lines, ("back", 1, 0, 5))
        seen = []
        for _ in range(5):
            for ask in (None, ("read", 4), ("write", 4, 1), ("read", 10))[:9 if near.turn else 0]:
                self.check_beat(near, memory, ask, (0, 0))
                self.assertEqual(near_beat(near, memory, ask, (0, 1)), (near, memory, None))
                self.assertEqual(near_beat(near, memory, ask, (1, 0)), near_beat(near, memory, None, (1, 1)))
            seen.append((near.turn, near.lines[1], memory))
            near, memory, _ = self.check_beat(near, memory, ("read", 4), (1, 0))
        self.assertEqual(seen, [
            (("back", 1, 0, 5), lines[1], {6: 1, 7: 2, 10: 5}), (("back", 1, 1, 5), lines[1], {6: 9, 7: 2, 10: 5}),
            (("fill", 1, 0, 5), (False, 3, True, 9, 11), {6: 9, 7: 11, 10: 5}),
            (("fill", 1, 1, 5), (False, 3, True, 5, 11), {6: 9, 7: 11, 10: 5}),
            (None, (True, 5, False, 5, 0), {6: 9, 7: 11, 10: 5})])

    def test_a_word_0_leaves_no_place(self):
        near = Near(4, 1, ((True, 2, True, 0, 0), OFF), ("back", 0, 0, 5))
        self.assertEqual(near_beat(near, {4: 9, 5: 1}, None, (1, 0))[1], {5: 1})
        great = {place: 1 for place in range(1000)}
        near = Near(16, 1, ((True, 600, True, 5, 5), (False, 0, False, 0, 0)), ("back", 0, 0, 5))
        self.assertEqual(len(near_beat(near, great, None, (1, 0))[1]), 1001)

    def test_errors(self):
        good = (Near(4, 1), {1: 2}, ("read", 3), (1, 0))
        wrong = [(0, InvalidLines, NEAR_WRONG), (1, InvalidMemory, WRONG_MEMORIES + [None]), (2, InvalidAsk, ASK_WRONG),
                 (3, InvalidChoice, CHOICE_WRONG)]
        check_refused(self, near_beat, good, wrong)
        check_refused(self, near_beat, (Near(4, 2), {}, None, (0, 0)), wrong)
        check_refused(self, near_words, good[:2], wrong[:2])
        check_refused(self, is_kept_near, good[:2], wrong[:2])
        check_refused(self, cleaned, good[:2], wrong[:2])
        great = {place: 1 for place in range(1001)}
        expect(self, InvalidMemory, None, near_words, Near(16, 1), great)


class KeptTest(unittest.TestCase):
    def test_drawn(self):
        source = random_source(3)
        kept = 0
        for turn in range(3000):
            width, sets = SETTINGS[turn % len(SETTINGS)]
            memory = some_words(source, width, sets)
            near = some_near(source, width, sets)
            if source.randrange(2):
                near, memory = some_kept_near(source, width, sets, memory)
                self.assertIs(is_kept_near(near, memory), True)
                place = source.choice(few_places(width, sets))
                store(memory, place, source.choice((0, memory.get(place, 0), source.randrange(1 << width))))
                if near.turn is not None and source.randrange(2):
                    word, way, part, block = near.turn
                    near = Near(width, sets, near.lines, (word, way, 1 - part, block))
            right = is_kept_by_words(open_up(near, memory))
            self.assertIs(is_kept_near(near, memory), right)
            kept += right
            told = near_words(near, memory)
            self.assertTrue(alike(told, dict(sorted(words_by_words(open_up(near, memory)).items()))))
        self.assertTrue(800 < kept < 2200, kept)

    def test_each_sentence(self):
        memory = {0: 1, 1: 2, 4: 5, 5: 6, 6: 9, 7: 9}
        clean, dirty, off = (True, 0, False, 1, 2), (True, 3, True, 7, 8), (False, 5, True, 3, 3)

        def kept(*lines, turn=None):
            near = Near(4, 1, lines, turn)
            right = is_kept_by_words(open_up(near, memory))
            self.assertIs(is_kept_near(near, memory), right, (lines, turn))
            return right

        self.assertTrue(kept(clean, dirty) and kept(dirty, clean) and kept(off, off) and kept(clean, off))
        self.assertFalse(kept(clean, clean) or kept(dirty, dirty) or kept((True, 3, False, 9, 9), dirty))
        self.assertTrue(kept((False, *clean[1:]), clean))
        self.assertFalse(kept((True, 0, False, 1, 3), dirty) or kept((True, 0, False, 0, 2), dirty))
        self.assertTrue(kept((False, 0, False, 1, 3), dirty) and kept((True, 0, True, 1, 3), dirty))
        self.assertTrue(kept(clean, dirty, turn=("back", 1, 0, 2)))
        self.assertFalse(kept(clean, dirty, turn=("back", 0, 0, 2)) or kept(clean, off, turn=("back", 1, 0, 2)))
        self.assertTrue(kept(clean, off, turn=("fill", 1, 0, 2)))
        self.assertFalse(kept(clean, dirty, turn=("fill", 1, 0, 2)) or kept(clean, dirty, turn=("fill", 0, 0, 2)))
        self.assertFalse(kept(clean, dirty, turn=("back", 1, 0, 0)) or kept(clean, dirty, turn=("back", 1, 0, 3)))
        self.assertFalse(kept(clean, off, turn=("fill", 1, 0, 0)))
        self.assertTrue(kept(clean, off, turn=("fill", 1, 0, 5)))
        self.assertFalse(kept(clean, dirty, turn=("back", 1, 1, 2)))
        self.assertTrue(kept(clean, (True, 3, True, 9, 8), turn=("back", 1, 1, 2)))
        self.assertFalse(kept(clean, off, turn=("fill", 1, 1, 2)))
        self.assertTrue(kept(clean, (False, 5, True, 5, 3), turn=("fill", 1, 1, 2)))

    def test_beats_keep_what_is_kept(self):
        """[15.3] and [15.4], from all kinds of kept lines on."""
        source = random_source(4)
        for turn in range(2500):
            width, sets = SETTINGS[turn % len(SETTINGS)]
            near, memory = some_kept_near(source, width, sets, some_words(source, width, sets))
            words = near_words(near, memory)
            ask = source.choice((None, some_ask(source, width, sets), some_ask(source, width, sets)))
            near, memory, answer = near_beat(near, memory, ask, (source.randrange(2), source.randrange(2)))
            self.assertIs(is_kept_near(near, memory), True)
            if answer is not None and ask[0] == "read":
                self.assertEqual(answer, ("read", words.get(ask[1], 0)))
            if answer == ("write",):
                store(words, ask[1], ask[2])
            self.assertEqual(near_words(near, memory), words)

    def test_words_over_what_is_not_held(self):
        one, other = (True, 2, False, 1, 0), (True, 2, True, 0, 4)
        self.assertEqual(near_words(Near(4, 1, (one, other)), {4: 7, 5: 7, 9: 1}), {5: 4, 9: 1})
        self.assertEqual(near_words(Near(4, 1, (other, one)), {4: 7, 5: 7, 9: 1}), {4: 1, 9: 1})
        self.assertEqual(near_words(Near(4, 1, (one, (False, *other[1:]))), {5: 7}), {4: 1})
        great = {place: 1 for place in range(1000)}
        self.assertEqual(len(near_words(Near(16, 1, ((True, 600, True, 5, 5), OFF)), great)), 1002)


class RunTest(unittest.TestCase):
    def test_runs_of_beats(self):
        source = random_source(5)
        used_up = 0
        for turn in range(500):
            width, sets = SETTINGS[turn % len(SETTINGS)]
            near, memory = some_near(source, width, sets), some_words(source, width, sets)
            asks = tuple(some_ask(source, width, sets) for _ in range(source.randrange(12)))
            choices = tuple((source.randrange(3) > 0, source.randrange(2)) for _ in range(source.randrange(60)))
            choices = tuple((int(ready), victim) for ready, victim in choices)
            told = near_run(near, memory, asks, choices)
            answers, beats = [], 0
            for choice in choices:
                if len(answers) == len(asks):
                    break
                near, memory, answer = near_beat(near, memory, asks[len(answers)], choice)
                answers += [] if answer is None else [answer]
                beats += 1
            self.assertEqual(told, (near, memory, tuple(answers), beats))
            check_own_kinds(self, told[1:])
            used_up += len(answers) < len(asks)
        self.assertTrue(50 < used_up < 450)

    def test_one_plain_memory(self):
        """[15.4]: near lines and memory, from any near lines with no line on, are one plain memory."""
        source = random_source(6)
        for turn in range(200):
            width, sets = SETTINGS[turn % len(SETTINGS)]
            words = some_words(source, width, sets)
            near = some_near(source, width, sets)
            near = Near(width, sets, tuple((False, *line[1:]) for line in near.lines))
            asks = tuple(some_ask(source, width, sets) for _ in range(30))
            right, plain = [], dict(words)
            for ask in asks:
                right.append(("read", plain.get(ask[1], 0)) if ask[0] == "read" else ("write",))
                if ask[0] == "write":
                    store(plain, ask[1], ask[2])
            choices = tuple((source.choice((0, 1, 1)), source.randrange(2)) for _ in range(600))
            near, memory, answers, _ = near_run(near, words, asks, choices)
            self.assertEqual(answers, tuple(right))
            self.assertEqual(near_words(near, memory), plain)
            self.assertEqual(cleaned(near, memory)[1], plain)

    def test_beats_of_misses(self):
        """[15.5]: 1 beat, those up to the second or fourth answer, and 1 beat more."""
        source = random_source(7)
        clean, dirty, off = (True, 0, False, 1, 2), (True, 3, True, 7, 8), OFF
        for lines, victim, answers in (((off, off), 0, 2), ((clean, dirty), 0, 2), ((clean, dirty), 1, 4), ((dirty, off), 1, 2),
                                       ((dirty, clean), 0, 4), (((False, 1, True, 1, 1), dirty), 1, 2)):
            for ask, _ in itertools.product((("read", 10), ("write", 11, 4)), range(20)):
                choices = [(source.randrange(2), victim) for _ in range(40)]
                ready = [beat for beat, choice in enumerate(choices, 1) if choice[0] and beat > 1]
                told = near_run(Near(4, 1, lines), {0: 1, 1: 2}, (ask,), tuple(choices))
                self.assertEqual(told[3], ready[answers - 1] + 1)
                self.assertEqual(len(told[2]), 1)

    def test_bounds(self):
        near = Near(4, 1)
        told = near_run(near, {}, (("read", 3),) * 200, ((1, 0),) * 5000)
        self.assertEqual((len(told[2]), told[3]), (200, 203))
        told = near_run(near, {}, (("read", 3),) * 200, ((0, 0),) * 5000)
        self.assertEqual(told[2:], ((), 5000))
        self.assertEqual(near_run(near, {1: 2}, (), ((1, 0),) * 9), (near, {1: 2}, (), 0))
        self.assertEqual(near_run(near, {1: 2}, (("read", 1),), ()), (near, {1: 2}, (), 0))
        turning = Near(4, 1, None, ("fill", 0, 0, 2))
        self.assertEqual(near_run(turning, {5: 2}, (("read", 5),), ((1, 0),) * 9)[2:], ((("read", 2),), 3))

    def test_errors(self):
        good = (Near(4, 1), {1: 2}, (("read", 3),), ((1, 0), (1, 1)))
        check_refused(self, near_run, good, [
            (0, InvalidLines, NEAR_WRONG), (1, InvalidMemory, WRONG_MEMORIES + [None]), (2, InvalidAsk, ASKS_WRONG),
            (3, InvalidChoice, CHOICES_WRONG)])


class CleanedTest(unittest.TestCase):
    def test_drawn(self):
        source = random_source(8)
        for turn in range(600):
            width, sets = SETTINGS[turn % len(SETTINGS)]
            near, memory = some_kept_near(source, width, sets, some_words(source, width, sets))
            if near.turn is not None:
                expect(self, Refused, ("turn",), cleaned, near, memory)
                continue
            told, later = cleaned(near, memory)
            self.assertEqual(later, near_words(near, memory))
            self.assertEqual(near_words(told, later), later)
            check_own_kinds(self, (told.lines, later))
            for line, clean in zip(near.lines, told.lines):
                self.assertTrue(alike(clean, (line[0], line[1], line[2] and not line[0], *line[3:])))
            self.assertIs(is_kept_near(told, later), True)

    def test_refused(self):
        wrong = ((True, 0, False, 1, 2), OFF)
        expect(self, Refused, ("kept",), cleaned, Near(4, 1, wrong), {})
        expect(self, Refused, ("turn",), cleaned, Near(4, 1, wrong, ("fill", 1, 0, 3)), {})
        self.assertIsNone(error_of(cleaned, Near(4, 1, wrong), {0: 1, 1: 2}))


if __name__ == "__main__":
    unittest.main()
