"""The pipe [13.1] to [13.3]."""

import itertools
import unittest

from machines_made import (
    SHAPES, is_long, pipe_fields, pipe_step, read_numbers, register_names, some_choice, some_pipe, some_step, step_word)
from support import alike, check_judge, check_own_kinds, check_refused, expect, numbers_but, odd_but, random_source
from test_machine import WRONG_SHAPES
from truebeat.core.pipe import asked, first_pipe, is_long_word, is_pipe, pipe_beat, reads_of
from truebeat.errors import InvalidChoice, InvalidNumber, InvalidShape, InvalidState
from truebeat.plain.shapes import Shape

SMALL, BYTE = Shape(4, 2), Shape(8, 4)
FIRST = first_pipe(SMALL)
WIRES = ("done", "done_pc", "ended", "put", "put_word", "rang")
STATES = odd_but() + [
    {**FIRST, "pc": 16}, {**FIRST, "u_left": 32}, {**FIRST, "u_left": -1}, {**FIRST, "m_to": 2}, {**FIRST, "m_kind": 4},
    {**FIRST, "x_on": True}, {**FIRST, "d_word": 65536}, {**FIRST, "r2": 0}, {**FIRST, "r0": 0}, {**FIRST, "w_x": None},
    {name: word for name, word in FIRST.items() if name != "w_x"}, {**FIRST, "allowed": False}, tuple(FIRST.items()),
    list(FIRST), {**FIRST, None: 0}]
GOOD_CHOICE = (3, 1, 9, 0)
CHOICES = odd_but() + [
    (3, 1, 9), (3, 1, 9, 0, 0), [3, 1, 9, 0], (16, 1, 9, 0), (3, 2, 9, 0), (3, True, 9, 0), (3, 1, 16, 0), (3, 1, -1, 0),
    (3, 1, 9, False), (3, 1, 9, 2), (None, 1, 9, 0), (3, 1, None, 0), (True, 1, 9, 0), (3, 1, 9, 10 ** 70)]
SET, PUT = step_word(9, 1) | 3, step_word(15, 1, 0, 1)


def state_with(shape, **told):
    return {**first_pipe(shape), **told}


class PipeTest(unittest.TestCase):
    def beat(self, shape, state, word=0, guess=0, ready=1, data=0, bell=0, reset=0):
        """A beat that is what the words of the document say."""
        before = dict(state)
        choice = (guess, ready, data, bell)
        told = pipe_beat(shape, state, word, choice, reset=reset)
        right = pipe_step(shape, state, word, choice, reset)
        self.assertEqual(told, right, (str(shape), state, word, choice, reset))
        self.assertEqual(list(told[0]), sorted(told[0]))
        self.assertEqual(list(told[1]), sorted(WIRES))
        check_own_kinds(self, told)
        self.assertEqual(state, before)
        return told

    def test_states(self):
        for shape in SHAPES:
            first = first_pipe(shape)
            self.assertTrue(alike(first, dict(sorted(dict.fromkeys(pipe_fields(shape), 0).items()))))
            self.assertIs(is_pipe(shape, first), True)
            for name, bits in pipe_fields(shape).items():
                self.assertIs(is_pipe(shape, {**first, name: (1 << bits) - 1}), True)
                self.assertIs(is_pipe(shape, {**first, name: 1 << bits}), False)
                self.assertIs(is_pipe(shape, {**first, name: -1}), False)
                self.assertIs(is_pipe(shape, {**first, name: False}), False)
                self.assertIs(is_pipe(shape, {other: 0 for other in first if other != name}), False)
        check_judge(self, is_pipe, (SMALL,), [FIRST, {**FIRST, "pc": 15}, dict(reversed(FIRST.items()))], STATES)

    def test_reads(self):
        for shape in (SMALL, Shape(9, 4), Shape(16, 8)):
            for word in range(0, 65536, 7):
                told = reads_of(shape, word)
                self.assertTrue(alike(told, read_numbers(shape, word)))
        self.assertEqual(reads_of(Shape(4, 8), step_word(0, 1, 2, 13)), (2, 5))
        self.assertEqual(reads_of(Shape(4, 4), step_word(11, 7, 6, 0)), (2, 3))
        self.assertEqual(reads_of(Shape(4, 4), step_word(12, 7, 6, 0)), (3, 2))
        self.assertEqual(reads_of(SMALL, step_word(0, 0, 0, 0)), (0, 0))
        self.assertEqual(reads_of(SMALL, 65535), ())

    def test_long_words(self):
        for word in range(0, 65536, 5):
            for two in (0, 1, 65535):
                self.assertIs(is_long_word(word, two), is_long(word, two))
        for c in range(9):
            self.assertIs(is_long_word(step_word(15, 0, 0, c), 0), c == 4)
            self.assertIs(is_long_word(step_word(15, 0, 0, c), 2), c in (4, 5, 6))

    def test_the_example(self):
        self.assertEqual([reads_of(SMALL, PUT), is_long_word(15 << 12 | 4, 0), is_long_word(15 << 12 | 5, 0)],
                         [(1,), True, False])

    def test_drawn_states(self):
        source = random_source(1)
        for shape in SHAPES:
            for _ in range(700):
                self.beat(shape, some_pipe(source, shape), some_step(source), *some_choice(source, shape),
                          int(source.randrange(12) == 0))

    def test_each_place_empty_or_full(self):
        source = random_source(2)
        for shape, on in itertools.product(SHAPES[:4], itertools.product((0, 1), (0, 1), (0, 1), range(4), (0, 1), (0, 1))):
            for _ in range(3):
                state = some_pipe(source, shape)
                state.update(d_on=on[0], x_on=on[1], u_on=on[2], m_kind=on[3], ended=0)
                state["m_to"], state["w_to"] = on[4] * state["m_to"], on[5] * state["w_to"]
                self.beat(shape, state, some_step(source), *some_choice(source, shape))

    def test_each_operation_in_work_and_decode(self):
        source = random_source(3)
        for op, other in itertools.product(range(16), range(16)):
            for c in (range(8) if op == 15 else (0, 9, 63)):
                for shape in (SMALL, Shape(4, 4), Shape(8, 8)):
                    state = some_pipe(source, shape)
                    state.update(d_on=1, x_on=1, ended=0, u_left=source.choice((0, 1, shape.width)))
                    state["x_word"] = step_word(op, source.randrange(8), source.randrange(8), c)
                    state["d_word"] = step_word(other, source.randrange(8), source.randrange(8), source.randrange(10))
                    if source.randrange(2):
                        # Guessed rightly, so that decode goes on.
                        right = pipe_step(shape, {**state, "d_on": 0, "m_kind": 0}, 0, (0, 1, 0, 0))[0]
                        state["x_next"] = right["pc"] if right["pc"] else (state["x_pc"] + 1) % (1 << shape.width)
                    self.beat(shape, state, some_step(source), *some_choice(source, shape))

    def test_waits_change_nothing(self):
        source = random_source(4)
        for shape, kind in itertools.product(SHAPES, range(4)):
            for _ in range(20):
                state = {**some_pipe(source, shape), "m_kind": kind}
                guess, _, data, bell = some_choice(source, shape)
                told, wires = self.beat(shape, state, some_step(source), guess, 0, data, bell)
                if kind in (1, 2):
                    self.assertEqual(told, state)
                    self.assertEqual(wires, {**dict.fromkeys(WIRES, 0), "ended": state["ended"]})
                reset = self.beat(shape, state, some_step(source), guess, 0, data, bell, 1)
                self.assertEqual(reset, (first_pipe(shape), dict.fromkeys(WIRES, 0)))

    def test_what_empty_places_have_makes_no_difference(self):
        source = random_source(5)
        for shape in SHAPES:
            for _ in range(80):
                state = some_pipe(source, shape)
                word, choice = some_step(source), some_choice(source, shape)
                cleared = dict(state)
                for letter in "dx":
                    if not state[f"{letter}_on"]:
                        cleared.update({name: 0 for name in state if name.startswith(f"{letter}_")})
                if not state["x_on"] or not is_long(state["x_word"], state["x_two"]) or not state["u_on"]:
                    cleared.update(u_left=0, u_on=0, u_one=state["u_one"] * 0, u_two=0)
                if state["m_kind"] in (0, 3) and state["m_to"] == 0:
                    cleared.update(m_x=0, m_y=0)
                one, other = pipe_beat(shape, state, word, choice), pipe_beat(shape, cleared, word, choice)
                if (cleared["m_kind"] not in (1, 2)) or choice[1]:
                    self.assertEqual(one, other)

    def test_what_is_asked(self):
        for kind, told in ((0, None), (1, ("read", 9)), (2, ("write", 9, 5)), (3, None)):
            state = state_with(SMALL, m_kind=kind, m_x=9, m_y=5)
            self.assertTrue(alike(asked(SMALL, state), told))

    def test_a_run_by_hand(self):
        state, _ = self.beat(SMALL, FIRST, SET, 1)
        self.assertEqual(state, state_with(SMALL, pc=1, d_on=1, d_word=SET, d_next=1))
        state, _ = self.beat(SMALL, state, PUT, 2)
        self.assertEqual(state, state_with(SMALL, pc=2, d_on=1, d_pc=1, d_word=PUT, d_next=2, x_on=1, x_word=SET, x_next=1))
        state, wires = self.beat(SMALL, state, 61440, 3)
        self.assertEqual((wires["done"], wires["done_pc"], wires["put"]), (1, 0, 0))
        # The value is handed on before it is written.
        self.assertEqual((state["x_one"], state["m_to"], state["m_x"], state["r1"]), (3, 1, 3, 0))
        state, wires = self.beat(SMALL, state, 0, 4)
        self.assertEqual(wires, {**dict.fromkeys(WIRES, 0), "done": 1, "done_pc": 1, "put": 1, "put_word": 3})
        self.assertEqual((state["w_to"], state["w_x"], state["r1"]), (1, 3, 0))
        state, wires = self.beat(SMALL, state, 0, 5)
        self.assertEqual((wires["done"], wires["done_pc"], wires["ended"]), (1, 2, 1))
        self.assertEqual(state, state_with(SMALL, pc=2, r1=3, ended=1))
        self.assertEqual(self.beat(SMALL, state, 0, 5)[0], state)

    def test_wrong_guesses_and_bells_strike(self):
        base = state_with(BYTE, pc=6, d_on=1, d_pc=5, d_word=SET, d_next=6, x_on=1, x_pc=4, x_word=SET, x_next=5)
        state, wires = self.beat(BYTE, base, PUT, 7)
        self.assertEqual((state["x_word"], state["d_word"], state["pc"]), (SET, PUT, 7))
        wrong, wires = self.beat(BYTE, {**base, "x_next": 9}, PUT, 7)
        self.assertEqual((wrong["x_on"], wrong["d_on"], wrong["pc"], wires["done"]), (0, 0, 5, 1))
        rang, wires = self.beat(BYTE, {**base, "allowed": 1}, PUT, 7, bell=1)
        self.assertEqual((rang["x_on"], rang["d_on"], rang["pc"], rang["saved"], rang["allowed"]), (0, 0, 1, 5, 0))
        self.assertEqual(wires["rang"], 1)
        self.assertEqual(self.beat(BYTE, base, PUT, 7, bell=1)[1]["rang"], 0)
        # Behind a step that allows bells one is taken at once, and behind the end none.
        allowing = {**base, "x_word": step_word(15, 1, 0, 3), "x_one": 1}
        self.assertEqual(self.beat(BYTE, allowing, PUT, 7, bell=1)[1]["rang"], 1)
        ending = {**base, "x_word": step_word(15), "allowed": 1}
        state, wires = self.beat(BYTE, ending, PUT, 7, bell=1)
        self.assertEqual((wires["rang"], state["ended"], state["pc"], state["d_on"]), (0, 1, 4, 0))
        back = {**base, "x_word": step_word(15, 0, 0, 2), "saved": 77, "x_next": 77}
        self.assertEqual(self.beat(BYTE, back, PUT, 7)[0]["x_pc"], 5)
        self.assertEqual(self.beat(BYTE, {**back, "x_next": 5}, PUT, 7)[0]["pc"], 77)

    def test_held_steps(self):
        load = step_word(10, 1, 0, 2)
        base = state_with(BYTE, pc=6, d_on=1, d_pc=5, d_next=6, x_on=1, x_pc=4, x_word=load, x_next=5)
        for word, held in ((PUT, True), (SET, False), (step_word(0, 2, 1, 0), True), (step_word(0, 2, 0, 5), True),
                           (step_word(0, 1, 2, 3), False), (step_word(11, 1, 2, 0), True), (step_word(15, 5, 0, 1), True)):
            state, _ = self.beat(BYTE, {**base, "d_word": word}, 1234, 7)
            self.assertEqual((state["m_kind"], state["m_to"], state["m_x"]), (1, 1, 2))
            if held:
                self.assertEqual((state["x_on"], state["d_word"], state["pc"]), (0, word, 6))
                # The next beat hands the word of the memory on, once it answers.
                waits, _ = self.beat(BYTE, state, 1234, 7, ready=0, data=99)
                self.assertEqual(waits, state)
                behind, _ = self.beat(BYTE, state, 1234, 7, data=99)
                self.assertIn(99, (behind["x_one"], behind["x_two"]))
            else:
                self.assertEqual((state["x_word"], state["d_word"], state["pc"]), (word, 1234, 7))
        # A load to register 0 holds nothing.
        state, _ = self.beat(BYTE, {**base, "x_word": step_word(10, 4, 0, 2), "d_word": step_word(15, 0, 0, 1)}, 1234, 7)
        self.assertEqual((state["m_to"], state["x_on"], state["x_one"]), (0, 1, 0))

    def test_nearest_values(self):
        add = step_word(0, 3, 1, 2)
        base = state_with(BYTE, r1=11, r2=22, d_on=1, d_word=add)
        self.assertEqual(self.values(base), (11, 22))
        self.assertEqual(self.values({**base, "w_to": 1, "w_x": 33}), (33, 22))
        self.assertEqual(self.values({**base, "w_to": 1, "w_x": 33, "m_to": 1, "m_x": 44}), (44, 22))
        self.assertEqual(self.values({**base, "m_to": 2, "m_kind": 1, "m_x": 44}, data=55), (11, 55))
        self.assertEqual(self.values({**base, "m_to": 2, "m_kind": 2, "m_x": 44}), (11, 22))
        work = {"x_on": 1, "x_word": step_word(9, 2) | 66, "x_next": 1}
        self.assertEqual(self.values({**base, **work, "w_to": 1, "w_x": 33, "m_to": 2, "m_x": 44}), (33, 66))
        self.assertEqual(self.values({**base, "d_word": step_word(0, 3, 0, 4), "m_to": 1}), (0, 0))

    def values(self, state, data=0):
        told, _ = self.beat(BYTE, state, 0, 1, data=data)
        self.assertEqual(told["x_on"], 1)
        return told["x_one"], told["x_two"]

    def test_long_steps(self):
        for shape, c in itertools.product((SMALL, BYTE, Shape(16, 8)), (4, 5, 6)):
            source = random_source(6)
            for _ in range(6):
                one, two = source.randrange(1 << shape.width), source.randrange(1, 1 << shape.width)
                word = step_word(15, 1, 2, c)
                right = (one * two % (1 << shape.width), one // two, one % two)[c - 4]
                state = state_with(shape, pc=2, d_on=1, d_pc=1, d_word=PUT, d_next=2, x_on=1, x_word=word, x_one=one,
                                   x_two=two, x_next=1)
                for number in range(shape.width + 1):
                    state, wires = self.beat(shape, state, 0, 3)
                    self.assertEqual((wires["done"], state["u_left"], state["x_word"], state["d_pc"], state["pc"]),
                                     (0, shape.width - number, word, 1, 2))
                state, wires = self.beat(shape, state, 0, 3)
                self.assertEqual((wires["done"], state["m_to"], state["m_x"]), (1, 1, right))
                self.assertEqual((state["x_word"], state["x_one"], state["u_on"], state["pc"]), (PUT, right, 0, 3))
                struck = state_with(shape, x_on=1, x_word=word, x_one=one, x_two=0)
                told, wires = self.beat(shape, struck, 0, 3)
                self.assertEqual((wires["done"], wires["ended"]), (0, 0) if c == 4 else (1, 3))

    def test_the_end_lets_memory_and_write_go_on(self):
        state = state_with(BYTE, d_on=1, d_word=PUT, d_next=3, x_on=1, x_pc=1, x_word=step_word(15), x_next=2, m_kind=2,
                           m_x=4, m_y=5, w_to=3, w_x=9, pc=3)
        state, wires = self.beat(BYTE, state, 0, 7)
        self.assertEqual(state, state_with(BYTE, r3=9, ended=1, pc=1))
        junk = {**some_pipe(random_source(7), BYTE), "ended": 2, "m_kind": 1, "m_to": 2, "w_to": 1, "w_x": 8, "m_y": 1}
        told, wires = self.beat(BYTE, junk, 0, 7, data=77, bell=1)
        self.assertEqual(told, {**first_pipe(BYTE), **{name: junk[name] for name in ("pc", "saved", "allowed", "r2", "r3")},
                                "r1": 8, "ended": 2, "w_to": 2, "w_x": 77})
        self.assertEqual(wires, {**dict.fromkeys(WIRES, 0), "ended": 2})

    def test_errors(self):
        check_refused(self, first_pipe, (SMALL,), [(0, InvalidShape, WRONG_SHAPES)])
        for value in WRONG_SHAPES:
            expect(self, InvalidShape, None, is_pipe, value, FIRST)
        words = numbers_but(0, 65535)
        check_refused(self, reads_of, (SMALL, 5), [(0, InvalidShape, WRONG_SHAPES), (1, InvalidNumber, words)])
        check_refused(self, is_long_word, (5, 65535), [(0, InvalidNumber, words), (1, InvalidNumber, words)])
        check_refused(self, asked, (SMALL, FIRST), [(0, InvalidShape, WRONG_SHAPES), (1, InvalidState, STATES)])
        check_refused(self, pipe_beat, (SMALL, FIRST, 5, GOOD_CHOICE), [
            (0, InvalidShape, WRONG_SHAPES), (1, InvalidState, STATES), (2, InvalidNumber, words),
            (3, InvalidChoice, CHOICES), ("reset", InvalidChoice, odd_but(0, 1) + [2])], {"reset": 0})
        expect(self, InvalidState, None, asked, Shape(4, 4), FIRST)
        self.assertEqual(len(register_names(Shape(4, 8))), 7)


if __name__ == "__main__":
    unittest.main()
