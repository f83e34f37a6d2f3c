"""A board [20.1] to [20.4], [20.7]."""

import copy
import unittest

from machines_made import SHAPES, step_word
from support import alike, check_own_kinds, check_refused, error_of, expect, numbers_but, odd_but, random_source
from test_computer import (
    ALLOW, BYTE, CHOICES_WRONG, END, LOAD, LOOP, PART, PUT, SET, SMALL, STORE, some_choices, some_computer)
from test_machine import WRONG_MEMORIES, WRONG_PROGRAMS, WRONG_SHAPES
from test_near import NEAR_WRONG
from truebeat.errors import (
    InvalidChoice, InvalidLines, InvalidMemory, InvalidNumber, InvalidOperation, InvalidProgram, InvalidShape, NothingToUndo, Refused, TooMany,
    UnknownName)
from truebeat.house import board as module
from truebeat.house.board import Board
from truebeat.near.lines import Near
from truebeat.plain.shapes import Shape, given_by
from truebeat.whole.computer import Computer

WELL = ((1, 1, 0, 0), (2, 1, 0, 0), (3, 1, 0, 0), (4, 1, 0, 0), (5, 1, 0, 0))
GOOD_STOPS = (("place", 0), ("place", 15), ("put",), ("bell",), ("steps", 1), ("steps", 3000), ("field", "x_on", 0), ("field", "r1", 65535),
              ("word", 0, 15), ("word", 15, 0))
STOPS_WRONG = odd_but() + [
    ("place",), ("place", 16), ("place", -1), ("place", True), ("place", 1, 2), ["place", 1], ("put", 1), ("bell", None), ("steps", 0),
    ("steps", 3001), ("steps", True), ("steps",), ("field", "x_on"), ("field", "r2", 0), ("field", "pc", 65536), ("field", "pc", -1),
    ("field", "pc", False), ("field", 3, 0), ("field", None, 0), ("field", [], 0), ("field", {}, 0), ("field", "pc", 0, 0), ("word", 1), ("word", 16, 0), ("word", 0, 16),
    ("word", True, 0), ("word", 0, True), ("word", 0, 0, 0), ("look",), (None,), ("end",), "put", ("steps", 10 ** 70)]
NUMBERS_WRONG = [value for value in odd_but() if not (type(value) is int and value > 0)] + [0, -1, 10 ** 61]


class OwnBoard:
    """A board by the words of the document, whose computers are led from the first one at each call."""

    def __init__(self, first):
        self.first, self.trail, self.stops, self.calls, self.ahead = first, (), [], [], []

    def now(self):
        return self.first.run(self.trail)

    def meets(self, ahead, computer, stop):
        events = computer.history[len(ahead.history):]
        if stop[0] == "place":
            return any(event[0] == "step" and event[2] == stop[1] for event in events)
        if stop[0] in ("put", "bell"):
            return any(event[0] == stop[0] for event in events)
        if stop[0] == "steps":
            return ahead.steps + 1 == computer.steps == stop[1]
        if stop[0] == "field":
            return computer.state[stop[1]] == stop[2]
        return computer.words().get(stop[1], 0) == stop[2]

    def note(self, call, trail=None, stops=None):
        self.ahead.append((self.trail, list(self.stops)))
        self.calls.append(call)
        self.trail = self.trail if trail is None else trail
        self.stops = self.stops if stops is None else stops

    def go(self, choices, steps=None):
        computer, word = self.now(), None
        before, many = computer.steps, 0
        if computer.state["ended"]:
            return 0, "ended"
        for choice in choices:
            ahead, computer = computer, computer.beat(choice)
            many += 1
            met = [index for index, stop in enumerate(self.stops) if self.meets(ahead, computer, stop)]
            if computer.state["ended"]:
                word = "ended"
            elif met:
                word = ("stop", met[0])
            elif steps is not None and computer.steps == before + steps:
                word = "steps"
            if word:
                break
        if many:
            self.note(("go", choices[:many]), trail=self.trail + choices[:many])
        return many, word

    def back(self, beats=1):
        if beats > len(self.trail):
            raise NothingToUndo(beats)
        self.note(("back", beats), trail=self.trail[:len(self.trail) - beats])
        return len(self.trail)

    def stop(self, stop):
        if stop in self.stops:
            raise Refused(("twice",))
        if len(self.stops) == 20:
            raise TooMany(20)
        self.note(("stop", stop), stops=self.stops + [stop])
        return len(self.stops)

    def unstop(self, stop):
        if stop not in self.stops:
            raise UnknownName(stop)
        self.note(("unstop", stop), stops=[other for other in self.stops if other != stop])
        return len(self.stops)

    def undo(self, calls=1):
        if calls > len(self.calls):
            raise NothingToUndo(calls)
        for _ in range(calls):
            self.calls.pop()
            self.trail, self.stops = self.ahead.pop()
        return len(self.calls)

    def writer(self, number):
        history, found = self.now().history, None
        steps = [event for event in history if event[0] == "step"]
        faults = {event[1] for event in history if event[0] == "fault"}
        for index, (_, beat, place) in enumerate(steps, 1):
            program = self.first.program
            word = program[place] if place < len(program) else 65535
            if given_by(self.first.shape, word) == number and beat not in faults:
                found = (index, place)
        return found


def some_stop(source, shape):
    top = min(16, 1 << shape.width)
    return source.choice((
        ("place", source.randrange(top)), ("put",), ("bell",), ("steps", source.randrange(1, 30)), ("field", "x_on", source.randrange(2)),
        ("field", "r1", source.randrange(9)), ("field", "m_kind", source.choice((1, 2, 3))), ("word", source.randrange(top), source.randrange(4))))


def some_call(source, board):
    """A call, as the name of a method with its arguments by position and by keyword."""
    shape = board.computer.shape
    kind = source.randrange(9)
    if kind < 3:
        choices = some_choices(source, shape, source.randrange(14))
        if source.randrange(2):
            choices = tuple(((board.computer.state["pc"] + at + 1) % (1 << shape.width), *choice[1:]) for at, choice in enumerate(choices))
        return "go", (choices,), {"steps": source.randrange(1, 4)} if source.randrange(3) == 0 else {}
    if kind < 5:
        return "stop", (some_stop(source, shape),), {}
    if kind == 5:
        return "unstop", (source.choice(board.stops) if board.stops and source.randrange(4) else some_stop(source, shape),), {}
    if kind == 6:
        return "back", (), {"beats": source.choice((1, 1, 2, 5, 20))} if source.randrange(3) else {}
    return "undo", (), {"calls": source.choice((1, 2, 3, 9))} if source.randrange(3) else {}


def some_board(source, shape=None, gates=False, calls=20):
    """A board behind some calls, and the tests' own one."""
    first = some_computer(source, shape, gates)
    board, own = Board(first.shape, first.program, first.memory, first.near, gates=gates), OwnBoard(first)
    for _ in range(calls):
        name, args, named = some_call(source, board)
        error_of(getattr(board, name), *args, **named)
        error_of(getattr(own, name), *args, **named)
    return board, own


class BoardTest(unittest.TestCase):
    def check_equal(self, board, own):
        self.assertTrue(alike((board.trail, board.stops, board.calls), (own.trail, tuple(own.stops), tuple(own.calls))))
        self.assertTrue(alike(board.computer, own.now()))
        self.assertEqual(len(board), len(own.calls))
        self.assertEqual(str(board), f"board at beat {len(own.trail)}, {len(own.stops)} stops, {len(own.calls)} calls")
        for stop in own.stops:
            self.assertIs(stop in board, True)

    def test_constants(self):
        self.assertEqual((module.MOST_CALLS, module.MOST_STOPS), (200, 20))

    def test_example(self):
        board = Board(Shape(4, 2), (37379, 61953, 61440), {}, Near(4, 1))
        self.assertEqual([board.stop(("put",)), board.go(WELL), board.computer.outputs, board.writer(1), str(board)],
                         [1, (4, ('stop', 0)), (3,), (1, 0), 'board at beat 4, 1 stops, 2 calls'])

    def test_drawn(self):
        source = random_source(1)
        seen, words = {}, {}
        for turn in range(120):
            first = some_computer(source, SHAPES[turn % len(SHAPES)], gates=turn % 30 == 0)
            board = Board(first.shape, first.program, first.memory, first.near, gates=first.gates)
            own = OwnBoard(first)
            for _ in range(source.randrange(30)):
                name, args, named = some_call(source, board)
                error = error_of(copy.deepcopy(own).__getattribute__(name), *args, **named)
                before = board.twin()
                if error is None:
                    told = getattr(board, name)(*args, **named)
                    right = getattr(own, name)(*args, **named)
                    self.assertTrue(alike(told, right), (name, args, named, told, right))
                    word = (told[1][0] if isinstance(told[1], tuple) else told[1]) if name == "go" else None
                    words[word] = words.get(word, 0) + 1
                else:
                    kept = vars(error)
                    expect(self, type(error), list(kept.values())[0], getattr(board, name), *args, **named)
                    self.assertTrue(alike(board, before))
                seen[name, error is None] = seen.get((name, error is None), 0) + 1
                self.check_equal(board, own)
            check_own_kinds(self, board)
            for number in range(1, first.shape.registers):
                self.assertTrue(alike(board.writer(number), own.writer(number)))
        self.assertTrue(all(many > 10 for many in seen.values()) and len(seen) == 9, seen)
        self.assertTrue(all(words.get(word, 0) > 10 for word in ("ended", "stop", "steps", None)), words)

    def test_each_kind_of_stop(self):
        program = (SET, ALLOW, PUT, STORE, LOAD, END)
        well = tuple((place, 1, 0, 0) for place in range(1, 7)) + ((6, 1, 0, 0),) * 20
        for stop, beats in ((("place", 2), 5), (("put",), 5), (("steps", 4), 6), (("field", "x_on", 1), 2), (("field", "pc", 4), 4),
                            (("field", "m_kind", 2), 6), (("word", 2, 3), 10), (("word", 2, 0), 1), (("place", 5), None), (("bell",), None)):
            board = Board(BYTE, program, {}, Near(8, 1))
            self.assertEqual(board.stop(stop), 1)
            told = board.go(well)
            if beats is None:
                self.assertEqual(told[1], "ended")
            else:
                self.assertEqual(told, (beats, ("stop", 0)), stop)
            self.assertEqual(board.calls[-1], ("go", well[:told[0]]))
        board = Board(BYTE, program, {}, Near(8, 1))
        board.stop(("bell",))
        self.assertEqual(board.go(tuple((*choice[:3], 1) for choice in well)), (4, ("stop", 0)))

    def test_stops_at_words(self):
        """A word meets by the words over the memory: in a line that is on, in one that is not, in way 1 behind way 0."""
        source = random_source(8)
        met = held = 0
        for turn in range(60):
            first = some_computer(source, SHAPES[turn % len(SHAPES)])
            top = 1 << first.shape.width
            choices = some_choices(source, first.shape, source.randrange(30))
            for _ in range(20):
                computer, choice = first.run(choices), (1, 1, source.randrange(2), 0)
                if computer.state["ended"]:
                    break
                words = computer.beat(choice).words()
                place = source.choice(sorted(words) or [0]) ^ source.choice((0, 0, 0, 1))
                value = source.choice((0, words.get(place, 0), words.get(place, 0), computer.memory.get(place, 0)))
                board = Board(first.shape, first.program, first.memory, first.near)
                board.go(choices)
                board.stop(("word", place % top, value))
                right = words.get(place % top, 0) == value
                told = board.go((choice,))[1]
                self.assertEqual(told, "ended" if board.computer.state["ended"] else ("stop", 0) if right else None)
                met += right
                held += right and value != board.computer.memory.get(place, 0)
        self.assertTrue(met > 200 and held > 20, (met, held))

    def test_several_at_one_beat(self):
        program = (SET, PUT, END)
        for stops, told in (((("steps", 2), ("put",)), ("stop", 0)), ((("steps", 3), ("put",), ("place", 1)), ("stop", 1))):
            board = Board(BYTE, program, {}, Near(8, 1))
            for stop in stops:
                board.stop(stop)
            self.assertEqual(board.go(WELL, steps=2), (4, told))
        board = Board(BYTE, program, {}, Near(8, 1))
        self.assertEqual(board.go(WELL, steps=2), (4, "steps"))
        board.stop(("place", 2))
        self.assertEqual(board.go(WELL, steps=1), (1, "ended"))
        self.assertEqual(board.go(WELL, steps=1), (0, "ended"))
        self.assertEqual(board.go(()), (0, "ended"))
        self.assertEqual(len(board), 3)

    def test_steps_are_further_ones(self):
        board = Board(BYTE, (LOOP,), {}, Near(8, 1))
        choices = ((0, 1, 0, 0),) * 9
        self.assertEqual(board.go(choices, steps=2), (4, "steps"))
        self.assertEqual(board.go(choices, steps=2), (2, "steps"))
        self.assertEqual(board.go(choices[:1], steps=2), (1, None))
        self.assertEqual(board.go(choices, steps=3000), (9, None))
        self.assertEqual(board.computer.steps, 14)
        self.assertEqual(board.go(()), (0, None))
        self.assertEqual(len(board), 4)

    def test_stops_met_again(self):
        """A stop meets behind each beat at which it is so, also behind the first one."""
        board = Board(BYTE, (SET, PUT, LOOP), {}, Near(8, 1))
        board.stop(("field", "r1", 0))
        self.assertEqual([board.go(WELL)[0] for _ in range(4)], [1, 1, 1, 1])

    def test_back_and_go(self):
        """[20.3]: behind `back`, what was taken back leads to the same computer."""
        source = random_source(2)
        for turn in range(60):
            board, _ = some_board(source, SHAPES[turn % len(SHAPES)], calls=6)
            for stop in board.stops:
                board.unstop(stop)
            if not board.trail:
                continue
            computer, trail = board.computer, board.trail
            beats = source.randrange(1, len(trail) + 1)
            ended = computer.state["ended"]
            self.assertEqual(board.back(beats=beats), len(trail) - beats)
            self.assertEqual((board.computer.beats, board.trail), (len(trail) - beats, trail[:-beats]))
            told = board.go(trail[-beats:])
            self.assertEqual((board.computer, board.trail), (computer, trail))
            self.assertEqual(told, (beats, "ended" if ended else None))

    def test_back_over_another_trail(self):
        """A call that left the trail on which it began leads nowhere any more."""
        board = Board(BYTE, (SET, PUT, PUT, LOOP), {}, Near(8, 1))
        first, other = ((1, 1, 0, 0), (2, 1, 0, 0), (9, 1, 0, 0), (4, 1, 0, 0), (4, 1, 0, 0)), ((3, 1, 0, 0),) * 9
        board.go(first)
        board.stop(("steps", 99))
        board.back(beats=4)
        board.go(other)
        board.stop(("steps", 98))
        for beats in (1, 2, 3, 1):
            trail = board.trail
            self.assertEqual(board.back(beats=beats), len(trail) - beats)
            self.assertEqual(board.trail, (first[:1] + other)[:len(trail) - beats])
            self.assertTrue(alike(board.computer, Computer(BYTE, (SET, PUT, PUT, LOOP), {}, Near(8, 1)).run(board.trail)))

    def test_go_in_parts(self):
        source = random_source(3)
        for turn in range(40):
            board, _ = some_board(source, SHAPES[turn % len(SHAPES)], calls=4)
            for stop in board.stops:
                board.unstop(stop)
            other = board.twin()
            choices = some_choices(source, board.computer.shape, 20)
            cut = source.randrange(20)
            board.go(choices)
            other.go(choices[:cut])
            other.go(choices[cut:])
            self.assertEqual((board.computer, board.trail, board.stops), (other.computer, other.trail, other.stops))

    def test_undo(self):
        """[20.3]: each kind of call, and many together."""
        source = random_source(4)
        for turn in range(40):
            board, _ = some_board(source, SHAPES[turn % len(SHAPES)], calls=0)
            states = [board.twin()]
            for _ in range(25):
                name, args, named = some_call(source, board)
                if name != "undo":
                    many = len(board)
                    error_of(getattr(board, name), *args, **named)
                    states += [board.twin()] if len(board) > many else []
            while len(states) > 1:
                calls = source.randrange(1, len(states))
                self.assertEqual(board.undo(calls=calls), len(states) - 1 - calls)
                del states[-calls:]
                self.assertTrue(alike(board, states[-1]) and board == states[-1])
            expect(self, NothingToUndo, 1, board.undo)
            self.assertEqual(board, states[0])
        board.stop(("put",))
        expect(self, NothingToUndo, 2, board.undo, calls=2)
        self.assertEqual((board.undo(), board.stops), (0, ()))

    def test_writers(self):
        """The register's word in the meaning is what the told step gives."""
        source = random_source(5)
        written = 0
        for turn in range(80):
            board, own = some_board(source, SHAPES[turn % len(SHAPES)], calls=8)
            shape = board.computer.shape
            for number in range(1, shape.registers):
                told = board.writer(number)
                self.assertEqual(told, own.writer(number))
                registers = board.computer.meaning().registers
                if told is None:
                    self.assertEqual(registers[number], 0)
                else:
                    steps = [index for index, event in enumerate(board.computer.history) if event[0] == "step"]
                    beat = board.computer.history[steps[told[0] - 1]][1]
                    then = Computer(shape, board.computer.program, own.first.memory, own.first.near).run(board.trail[:beat])
                    self.assertEqual(then.meaning().registers[number], registers[number])
                    written += 1
        self.assertGreater(written, 40)
        board = Board(BYTE, (SET, step_word(15, 1, 0, 5), END), {}, Near(8, 1))
        self.assertIsNone(board.writer(1))
        self.assertEqual(board.go(WELL), (4, "ended"))
        self.assertEqual(board.computer.history[-1], ("fault", 4, "divide"))
        self.assertEqual((board.writer(1), board.writer(2)), ((1, 0), None))
        board = Board(BYTE, (step_word(9, 0) | 3, step_word(9, 4) | 3, LOOP), {}, Near(8, 1))
        board.go(WELL)
        self.assertEqual([board.writer(number) for number in (1, 2, 3)], [None] * 3)

    def test_twins(self):
        source = random_source(6)
        for turn in range(30):
            board, own = some_board(source, SHAPES[turn % len(SHAPES)], gates=turn % 10 == 0, calls=8)
            other = board.twin()
            self.assertTrue(alike(board, other) and board == other)
            self.assertEqual(other.computer.gates, board.computer.gates)
            for _ in range(5):
                name, args, named = some_call(source, other)
                error_of(getattr(other, name), *args, **named)
            other.stop(("steps", 77))
            self.check_equal(board, own)
            self.assertFalse(board == other)
            self.assertEqual(other.undo(calls=len(other)), 0)
            self.assertEqual(other.computer, own.first)

    def test_equality_and_in(self):
        board = Board(SMALL, (SET, PUT, END), {}, Near(4, 1))
        same = Board(SMALL, (SET, PUT, END), {}, Near(4, 1), gates=True)
        self.assertTrue(board == same and not board != same)
        for other in (Board(SMALL, (SET, PUT), {}, Near(4, 1)), Board(SMALL, (SET, PUT, END), {1: 1}, Near(4, 1)), *odd_but(), board.computer, Board):
            self.assertFalse(board == other)
            self.assertTrue(board != other)
        board.stop(("put",))
        self.assertFalse(board == same)
        same.stop(("bell",))
        self.assertFalse(board == same)
        same.unstop(("bell",))
        same.stop(("put",))
        self.assertFalse(board == same)
        same.undo(calls=3)
        same.stop(("put",))
        self.assertTrue(board == same)
        # [20.7]: `unstop` behind `stop` leaves the calls.
        other = Board(SMALL, (SET, PUT, END), {}, Near(4, 1))
        other.stop(("bell",))
        other.unstop(("bell",))
        self.assertEqual((other.stops, len(other)), ((), 2))
        board.stop(("steps", 1))
        for stop in (("put",), ("steps", 1)):
            self.assertIs(stop in board, True)
        for value in STOPS_WRONG + [("bell",), ("steps", 2), ("place", 1), board, Board]:
            self.assertIs(value in board, False)
        with self.assertRaises(TypeError):
            list(board)

    def test_all_stops(self):
        board = Board(SMALL, (SET, PUT, END), {}, Near(4, 1))
        for many, stop in enumerate(GOOD_STOPS, 1):
            self.assertEqual(board.stop(stop), many)
        self.assertEqual(board.stops, GOOD_STOPS)
        for stop in GOOD_STOPS:
            expect(self, Refused, ("twice",), board.stop, stop)
        self.assertEqual(board.unstop(("put",)), len(GOOD_STOPS) - 1)
        self.assertEqual(board.stops, GOOD_STOPS[:2] + GOOD_STOPS[3:])
        expect(self, UnknownName, ("put",), board.unstop, ("put",))
        expect(self, UnknownName, ("place", 5), board.unstop, ("place", 5))
        self.assertEqual(board.stop(("put",)), len(GOOD_STOPS))
        self.assertEqual(board.stops[-1], ("put",))

    def test_bounds(self):
        board = Board(BYTE, (LOOP,), {}, Near(8, 1))
        for number in range(20):
            self.assertEqual(board.stop(("place", number + 1)), number + 1)
        expect(self, TooMany, 20, board.stop, ("put",))
        expect(self, Refused, ("twice",), board.stop, ("place", 1))
        one = ((0, 1, 0, 0),)
        for number in range(21, 201):
            self.assertEqual(board.go(one), (1, None))
        self.assertEqual(len(board), 200)
        before = board.twin()
        for function, args, named in ((board.go, (one,), {}), (board.go, ((),), {}), (board.back, (), {}), (board.unstop, (("place", 1),), {})):
            expect(self, TooMany, 200, function, *args, **named)
        expect(self, TooMany, 20, board.stop, ("put",))
        expect(self, UnknownName, ("put",), board.unstop, ("put",))
        expect(self, NothingToUndo, 181, board.back, beats=181)
        self.assertTrue(alike(board, before))
        self.assertEqual(board.undo(), 199)
        self.assertEqual((board.unstop(("place", 1)), len(board)), (19, 200))
        expect(self, TooMany, 200, board.stop, ("put",))
        expect(self, Refused, ("twice",), board.stop, ("place", 2))
        self.assertEqual(board.undo(calls=200), 0)
        ended = Board(BYTE, (END,), {}, Near(8, 1))
        self.assertEqual(ended.go(WELL), (3, "ended"))
        for number in range(199):
            (ended.stop if number % 2 == 0 else ended.unstop)(("put",))
        expect(self, TooMany, 200, ended.go, WELL)

    def test_most_beats(self):
        for gates, most in ((False, 3000), (True, 400)):
            board = Board(SMALL, (LOOP,), {}, Near(4, 1), gates=gates)
            choices = ((0, 1, 0, 0),) * most
            expect(self, TooMany, most, board.go, choices + choices[:1])
            self.assertEqual(board.go(choices), (most, None))
            expect(self, TooMany, most, board.go, choices[:1])
            expect(self, InvalidNumber, 0, board.go, choices[:1], steps=0)
            expect(self, InvalidChoice, None, board.go, [choices[0]])
            self.assertEqual(board.go(()), (0, None))
            self.assertEqual(board.back(beats=most), 0)
            self.assertEqual(board.go(choices[:9]), (9, None))
            # Also where a stop, or the end, would halt it ahead of that.
            board.stop(("steps", 20))
            expect(self, TooMany, most, board.go, choices[:most - 8])
        ended = Board(SMALL, (END,), {}, Near(4, 1))
        ended.go(WELL)
        expect(self, TooMany, 3000, ended.go, WELL * 600)
        self.assertEqual(ended.go(WELL * 599), (0, "ended"))

    def test_first_at_a_place(self):
        """[20.4]: a stop at a place meets first at the beat of the first plain step there, whatever the foe does."""
        source = random_source(7)
        met = 0
        for turn in range(60):
            first = some_computer(source, SHAPES[turn % len(SHAPES)])
            place = source.randrange(min(len(first.program), 16))
            told = set()
            for _ in range(3):
                board = Board(first.shape, first.program, first.memory, first.near)
                board.stop(("place", place))
                quiet = tuple((*choice[:3], 0) for choice in some_choices(source, first.shape, 300))
                _, word = board.go(quiet)
                if word == ("stop", 0):
                    plain = board.computer.meaning()
                    told.add((board.computer.steps, plain.pc, plain.registers, plain.outputs))
                    self.assertEqual(sum(event[0] == "step" and event[2] == place for event in board.computer.history), 1)
            self.assertLessEqual(len(told), 1)
            met += len(told)
        self.assertGreater(met, 20)

    def test_errors(self):
        good = (SMALL, (SET, PUT, END), {1: 2}, Near(4, 1))
        nears = NEAR_WRONG + [Near(5, 1), Near(4, 1, None, ("fill", 0, 0, 2))]
        check_refused(self, Board, good, [
            (0, InvalidShape, WRONG_SHAPES), (1, InvalidProgram, WRONG_PROGRAMS), (2, InvalidMemory, WRONG_MEMORIES + [None]),
            (3, InvalidLines, nears), ("gates", InvalidOperation, odd_but(True, False) + [0, 1])], {"gates": False})
        board = Board(*good)
        steps = [value for value in numbers_but(1, 3000) if value is not None]
        check_refused(self, board.go, (WELL,), [(0, InvalidChoice, CHOICES_WRONG), ("steps", InvalidNumber, steps)], {"steps": 1})
        check_refused(self, board.back, (), [("beats", InvalidNumber, NUMBERS_WRONG)], {"beats": 1})
        check_refused(self, board.undo, (), [("calls", InvalidNumber, NUMBERS_WRONG)], {"calls": 1})
        check_refused(self, board.stop, (("put",),), [(0, InvalidOperation, STOPS_WRONG)])
        check_refused(self, board.unstop, (("put",),), [(0, InvalidOperation, STOPS_WRONG)])
        check_refused(self, board.writer, (1,), [(0, InvalidNumber, numbers_but(1, 1))])
        before = board.twin()
        expect(self, NothingToUndo, 10 ** 59, board.back, beats=10 ** 59)
        expect(self, NothingToUndo, 10 ** 59, board.undo, calls=10 ** 59)
        self.assertTrue(alike(board, before))
        wide = Board(BYTE, (SET,), {}, Near(8, 1))
        self.assertIsNone(wide.writer(3))
        expect(self, InvalidNumber, 4, wide.writer, 4)
        expect(self, InvalidOperation, None, wide.stop, ("field", "r4", 0))
        self.assertEqual(wide.stop(("field", "r3", 0)), 1)

    def test_what_is_returned_is_its_own(self):
        board = Board(BYTE, (SET, PART), {1: 2}, Near(8, 1))
        board.computer.memory.clear()
        self.assertEqual(board.computer.memory, {1: 2})
        computer = board.computer
        board.go(WELL)
        self.assertEqual((computer.beats, computer.history), (0, ()))


if __name__ == "__main__":
    unittest.main()
