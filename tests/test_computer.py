"""The whole computer [19.1] to [19.6], and the main promise [0.11] to [0.13]."""

import itertools
import unittest

from machines_made import (
    ENDS, SHAPES, ahead_of_all, at, pipe_fields, pipe_step, plain_step, some_memory, some_pipe, some_program, step_word)
from near_made import close_up, near_step, open_up, some_kept_near, words_by_words
from support import alike, check_own_kinds, check_refused, error_of, expect, numbers_but, odd_but, random_source
from test_machine import WRONG_MEMORIES, WRONG_PROGRAMS, WRONG_SHAPES
from test_near import NEAR_WRONG
from test_pipe import STATES
from truebeat.core.counts import counted
from truebeat.core.meaning import is_kept, meaning, rank
from truebeat.core.pipe import first_pipe
from truebeat.errors import (
    InvalidChoice, InvalidLines, InvalidMemory, InvalidNumber, InvalidOperation, InvalidProgram, InvalidShape, InvalidState, Refused, TooMany)
from truebeat.near.lines import Near, is_kept_near
from truebeat.plain.machine import Plain
from truebeat.plain.shapes import Shape
from truebeat.whole import computer as module, running
from truebeat.whole.computer import Computer, bells_of, most_waits, told_history

SMALL, BYTE = Shape(4, 2), Shape(8, 4)
SET, PUT, LOAD, STORE = step_word(9, 1) | 3, step_word(15, 1, 0, 1), step_word(10, 1, 0, 2), step_word(11, 1, 0, 2)
ALLOW, TIMES, PART, END, WORD = (step_word(15, 1, 1, c) for c in (3, 4, 5, 0, 9))
BACK, LOOP = step_word(15, 0, 0, 2), step_word(12, 0, 0, 0)
OTHERS = odd_but() + [SMALL, Near(4, 1), Computer]
CHOICE_WRONG = odd_but() + [
    (3, 1, 0), (3, 1, 0, 0, 0), [3, 1, 0, 0], (16, 1, 0, 0), (-1, 1, 0, 0), (3, 2, 0, 0), (3, 1, 2, 0), (3, 1, 0, 2), (3, True, 0, 0),
    (3, 1, False, 0), (3, 1, 0, True), (True, 1, 0, 0), (None, 1, 0, 0), (3, 1, 0, 10 ** 70)]
CHOICES_WRONG = odd_but(()) + [(choice,) for choice in CHOICE_WRONG] + [[(3, 1, 0, 0)], (3, 1, 0, 0)]
COMPUTERS_WRONG = odd_but() + [Near(4, 1), SMALL, Computer]


def some_computer(source, shape=None, gates=False):
    """A computer with near lines in which asks have left something, and the tests' own one."""
    shape = shape or source.choice(SHAPES)
    sets = source.choice((1, 2, 4, 8))
    near, memory = some_kept_near(source, shape.width, sets, some_memory(source, shape))
    m = open_up(near, memory)
    while m["turn"] is not None:
        near_step(m, None, 1, 0)
    near, memory = close_up(m)
    program = list(some_program(source, source.randrange(1, 12)))
    for word in (PUT, PUT, END, LOAD, STORE)[:source.randrange(6)]:
        program.insert(source.randrange(len(program) + 1), word)
    if source.randrange(2):
        program = [SET, ALLOW, *program]
    return Computer(shape, tuple(program), memory, near, gates=gates)


def by_words(computer):
    """The tests' own computer that is as a computer, just made, is."""
    m = open_up(computer.near, computer.memory)
    return {"m": m, "state": first_pipe(computer.shape), "beats": 0, "waits": 0, "history": [], "wrong": [], "row": [0],
            "plain": {**ahead_of_all(computer.shape), "memory": words_by_words(m)}}


def do_beat(shape, program, c, choice):
    """Let the tests' own computer do a beat by the words of [19.1]."""
    guess, ready, victim, bell = choice
    s = c["state"]
    ask = {1: ("read", s["m_x"]), 2: ("write", s["m_x"], s["m_y"])}.get(s["m_kind"])
    answer = near_step(c["m"], ask, ready, victim)
    data = answer[1] if answer and ask[0] == "read" else 0
    n, wires = pipe_step(shape, s, at(program, s["pc"]), (guess, int(answer is not None), data, bell))
    c["beats"] += 1
    beat = c["beats"]
    if ask and answer is None:
        c["waits"] += 1
        c["row"][-1] += 1
    if wires["done"]:
        goal, _ = plain_step(shape, program, c["plain"])
        c["wrong"].append(int(not wires["rang"] and not goal["ended"] and s["x_next"] != goal["pc"]))
        c["plain"], _ = plain_step(shape, program, c["plain"], wires["rang"])
        c["row"].append(0)
        c["history"].append(("step", beat, s["x_pc"]))
        c["history"] += [("put", beat, wires["put_word"])] * wires["put"] + [("bell", beat)] * wires["rang"]
        if wires["ended"]:
            word, *rest = ENDS[wires["ended"]]
            c["history"].append((word, beat, *rest))
    c["state"] = n


def some_choices(source, shape, many):
    ready, bell = source.choice((2, 4, 9)), source.choice((2, 4, 9))
    top = min(1 << shape.width, 17)
    return tuple((source.randrange(top), int(source.randrange(ready) > 0), source.randrange(2), int(source.randrange(bell) == 0))
                 for _ in range(many))


def history_by_words(shape, program, memory, bells, most):
    """The events of [19.3], or the number of the first bell that cannot be taken."""
    m, events = {**ahead_of_all(shape), "memory": dict(memory)}, []
    taken = {}
    for number in range(1, most + 1):
        if m["ended"]:
            break
        events.append(("step", m["pc"]))
        puts = len(m["outputs"])
        m, taken[number] = plain_step(shape, program, m, int(number in bells))
        events += [("put", word) for word in m["outputs"][puts:]] + [("bell",)] * taken[number]
        events += [ENDS[m["ended"]]] if m["ended"] else []
    loose = [number for number in bells if number <= most and not taken.get(number)]
    return loose[0] if loose else tuple(events)


class ComputerTest(unittest.TestCase):
    def check_equal(self, computer, c):
        """What the computer tells is what the tests' own one has."""
        near, memory = close_up(c["m"])
        history = tuple(c["history"])
        steps = [event for event in history if event[0] == "step"]
        told = (computer.state, computer.near, computer.memory, computer.history, computer.beats, computer.waits, computer.steps)
        right = (dict(sorted(c["state"].items())), near, memory, history, c["beats"], c["waits"], len(steps))
        self.assertTrue(alike(told, right), (told, right))
        self.assertEqual(computer.outputs, tuple(event[2] for event in history if event[0] == "put"))
        self.assertTrue(alike(computer.words(), dict(sorted(words_by_words(c["m"]).items()))))
        self.assertEqual((len(computer), most_waits(computer)), (len(steps), max(c["row"])))
        self.assertEqual(str(computer), f"computer of {computer.shape.width} bits, {len(steps)} steps in {c['beats']} beats")

    def check_promises(self, computer, c, words):
        """[19.4], and with it [0.11] and [0.13]: the history and the meaning are those of one plain run."""
        shape, program, steps = computer.shape, computer.program, computer.steps
        bells = bells_of(computer)
        loose = tuple((event[0], *event[2:]) for event in computer.history)
        self.assertEqual(loose, history_by_words(shape, program, words, bells, steps))
        plain = computer.meaning()
        m = c["plain"]
        self.assertEqual((plain.pc, plain.registers, plain.memory, plain.saved, plain.allowed, plain.ended, plain.outputs),
                         (m["pc"], tuple(m["held"]), m["memory"], m["saved"], m["allowed"] == 1, ENDS[m["ended"]], tuple(m["outputs"])))
        if len(words) <= 1000:
            self.assertEqual(loose, told_history(shape, program, words, bells, steps))
            self.assertEqual(plain, Plain(shape, program, memory=words).run(steps, bells))
        self.assertIs(is_kept_near(computer.near, computer.memory), True)

    def check_ranks(self, ahead, computer):
        """[0.12]: the rank falls at a beat that makes no step and does not wait, until the end; a wait changes nothing."""
        if ahead.state["ended"] == 0 and computer.steps == ahead.steps:
            if computer.waits > ahead.waits:
                self.assertEqual(computer.state, ahead.state)
            else:
                self.assertLess(rank(computer.shape, computer.state), rank(computer.shape, ahead.state))

    def test_constants(self):
        self.assertEqual((module.MAX_BEATS, module.MAX_GATED), (3000, 400))

    def test_beat_by_beat(self):
        source = random_source(1)
        events, waits = {}, 0
        for turn in range(180):
            computer = some_computer(source, SHAPES[turn % len(SHAPES)])
            c, words = by_words(computer), computer.words()
            self.check_equal(computer, c)
            for choice in some_choices(source, computer.shape, source.randrange(70)):
                ahead = computer
                if source.randrange(3):
                    choice = ((ahead.state["pc"] + 1) % (1 << ahead.shape.width), *choice[1:])
                computer = ahead.beat(choice)
                do_beat(computer.shape, computer.program, c, choice)
                self.check_equal(computer, c)
                self.check_promises(computer, c, words)
                self.check_ranks(ahead, computer)
                told = is_kept(computer.shape, computer.state, computer.words(), computer.program)
                self.assertIs(told, True)
                self.assertEqual(meaning(computer.shape, computer.state, computer.words(), computer.program).registers,
                                 computer.meaning().registers)
            for event in computer.history:
                events[event[0]] = events.get(event[0], 0) + 1
            waits += computer.waits
        self.assertTrue(all(events.get(word, 0) > 20 for word in ("step", "put", "bell", "end", "fault")), events)
        self.assertGreater(waits, 200)

    def test_runs(self):
        source = random_source(2)
        for turn in range(250):
            first = some_computer(source, SHAPES[turn % len(SHAPES)])
            choices = some_choices(source, first.shape, source.randrange(200))
            c, words = by_words(first), first.words()
            for choice in choices:
                do_beat(first.shape, first.program, c, choice)
            last = first.run(choices)
            self.check_equal(last, c)
            self.check_promises(last, c, words)
            cut = source.randrange(len(choices) + 1)
            self.assertTrue(alike(first.run(choices[:cut]).run(choices[cut:]), last))
            self.assertEqual((first.beats, first.history, first.steps), (0, (), 0))
            check_own_kinds(self, last)
            # [19.5]: enough steps are done.
            enough = (last.beats - last.waits) // (first.shape.width + 4)
            self.assertTrue(last.steps >= enough or last.state["ended"])

    def test_reckoned_beats(self):
        """[19.5] at each step: beats less waits, by the plain machine over the words at the beginning."""
        source = random_source(3)
        for turn in range(200):
            computer = some_computer(source, SHAPES[turn % len(SHAPES)])
            c, words, done = by_words(computer), computer.words(), []
            for choice in some_choices(source, computer.shape, 120):
                do_beat(computer.shape, computer.program, c, choice)
                if len(c["wrong"]) > len(done):
                    done.append(c["beats"] - c["waits"])
            rang = {event[1] for event in c["history"] if event[0] == "bell"}
            beats = [event[1] for event in c["history"] if event[0] == "step"]
            told = tuple((wrong, int(beat in rang), 0) for wrong, beat in zip(c["wrong"], beats))
            self.assertEqual(counted(computer.shape, computer.program, words, told), tuple(done))

    def test_gates(self):
        source = random_source(4)
        for turn in range(24):
            first = some_computer(source, SHAPES[turn % len(SHAPES)], gates=turn % 2 == 0)
            other = Computer(first.shape, first.program, first.memory, first.near, gates=turn % 2 == 1)
            choices = some_choices(source, first.shape, 60)
            one, two = first.run(choices), other.run(choices)
            self.assertTrue(one == two and first == other)
            self.assertEqual((one.gates, two.gates), (first.gates, other.gates))
            self.assertEqual((one.beats, one.waits, one.words()), (two.beats, two.waits, two.words()))
            c, words = by_words(first), first.words()
            for choice in choices:
                do_beat(first.shape, first.program, c, choice)
            for computer in (one, two):
                self.check_equal(computer, c)
                self.check_promises(computer, c, words)
            self.assertEqual(one.beat((0, 1, 0, 0)), two.beat((0, 1, 0, 0)))

    def test_gates_are_worked(self):
        """With gates each beat, that of the reset too, is one of the net, and without none is."""
        worked = []
        right = running.gated_beat
        running.gated_beat = lambda *args: worked.append(args[-1]) or right(*args)
        try:
            for gates, told in ((False, []), (True, [1, 0, 0, 0])):
                Computer(SMALL, (SET,), {}, Near(4, 1), gates=gates, waking=first_pipe(SMALL)).run(((1, 1, 0, 0),) * 3)
                self.assertEqual(worked, told)
        finally:
            running.gated_beat = right

    def test_wakings(self):
        source = random_source(5)
        for turn in range(60):
            first = some_computer(source, SHAPES[turn % len(SHAPES)])
            waking = some_pipe(source, first.shape)
            gates = turn % 4 == 0
            woken = Computer(first.shape, first.program, first.memory, first.near, gates=gates, waking=waking)
            self.assertTrue(alike((woken.state, woken.beats, woken.waits, woken.history), (first_pipe(first.shape), 0, 0, ())))
            self.assertEqual((woken, woken.memory, woken.near), (first, first.memory, first.near))
            choices = some_choices(source, first.shape, 40)
            self.assertEqual(woken.run(choices), first.run(choices))
            self.assertEqual(woken.run(choices).beats, 40)

    def test_all_ones_and_asks_in_wakings(self):
        for shape in (SMALL, BYTE):
            for told in ({}, {"m_kind": 1}, {"m_kind": 2}, {"ended": 1}, {"m_kind": 2, "ended": 3}):
                waking = {name: told.get(name, (1 << bits) - 1) for name, bits in pipe_fields(shape).items()}
                for gates in (False, True):
                    woken = Computer(shape, (SET,), {3: 4}, Near(shape.width, 2), gates=gates, waking=waking)
                    self.assertEqual((woken.state, woken.memory, woken.near), (first_pipe(shape), {3: 4}, Near(shape.width, 2)))

    def test_waits_of_misses(self):
        """Asks that are answered at once, that miss, and that throw out a dirty line."""
        well = tuple((guess, 1, 1, 0) for guess in (1, 2, 3, 4, 5, 6, 7, 8))
        program = (SET, STORE, LOAD, END)
        dirty = Near(8, 1, ((True, 2, False, 0, 0), (True, 3, True, 7, 7)))
        held = Near(8, 1, ((True, 1, False, 0, 0), (False, 0, False, 0, 0)))
        for near, waits, memory in ((dirty, 5, {6: 7, 7: 7}), (Near(8, 1), 3, {}), (held, 0, {})):
            last = Computer(BYTE, program, {}, near).run(well + ((0, 1, 1, 0),) * 9)
            self.assertEqual((last.waits, last.memory, last.words()), (waits, memory, {**memory, 2: 3}))
            self.assertEqual([event[1] for event in last.history], [3, 4, 5 + waits, 6 + waits, 6 + waits])
            self.assertEqual(most_waits(last), waits)
        slow = Computer(BYTE, program, {}, dirty).run(well[:4] + ((0, 0, 1, 0),) * 9)
        self.assertEqual((slow.waits, slow.steps, most_waits(slow)), (9, 2, 9))

    def test_equality(self):
        first = Computer(BYTE, (SET, PUT, END), {1: 2}, Near(8, 1))
        self.assertEqual(first, Computer(BYTE, (SET, PUT, END), {1: 2}, Near(8, 1), gates=True))
        others = [Computer(Shape(8, 2), (SET, PUT, END), {1: 2}, Near(8, 1)), Computer(BYTE, (SET, PUT), {1: 2}, Near(8, 1)),
                  Computer(BYTE, (SET, PUT, END), {1: 3}, Near(8, 1)), Computer(BYTE, (SET, PUT, END), {1: 2}, Near(8, 2)),
                  Computer(BYTE, (SET, PUT, END), {1: 2}, Near(8, 1, ((True, 5, False, 0, 0), (False, 0, False, 0, 0)))),
                  first.beat((1, 1, 0, 0)), *OTHERS]
        for other in others:
            self.assertFalse(first == other)
            self.assertTrue(first != other)
        # Beats and waits make no difference: behind the end nothing happens any more.
        ended = first.run(((1, 1, 0, 0), (2, 1, 0, 0), (3, 1, 0, 0)) + ((0, 1, 0, 0),) * 6)
        self.assertEqual(ended, ended.run(((5, 0, 1, 1),) * 9))
        self.assertEqual((ended.beats, ended.run(((5, 0, 1, 1),) * 9).beats), (9, 18))
        # Histories with unlike beats, but all else equal.
        late = first.run(((9, 1, 0, 0), (2, 1, 0, 0), (3, 1, 0, 0), (1, 1, 0, 0), (2, 1, 0, 0)) + ((0, 1, 0, 0),) * 9)
        self.assertEqual((late.state, late.memory, late.near, late.outputs), (ended.state, ended.memory, ended.near, ended.outputs))
        self.assertFalse(late == ended)
        with self.assertRaises(TypeError):
            list(first)

    def test_great_words(self):
        memory = {place: 1 for place in range(1000)}
        computer = Computer(Shape(16, 2), (step_word(9, 1) | 5, step_word(7, 0, 0, 0), step_word(11, 1, 1, 0), END), memory,
                            Near(16, 1, ((True, 600, True, 5, 5), (False, 0, False, 0, 0))))
        self.assertEqual(len(computer.words()), 1002)
        self.assertEqual(len(computer.meaning().memory), 1002)
        last = computer.run(tuple((guess, 1, 1, 0) for guess in (1, 2, 3, 4)) + ((0, 1, 1, 0),) * 20)
        self.assertEqual((last.meaning().ended, len(last.meaning().memory)), (("end",), 1002))

    def test_guided(self):
        source = random_source(6)
        for turn in range(150):
            first = some_computer(source, SHAPES[turn % len(SHAPES)], gates=turn % 20 == 0)
            width = first.shape.width
            table = {source.randrange(16): source.randrange(1 << width) for _ in range(source.randrange(9))}
            bits = tuple(choice[1:] for choice in some_choices(source, first.shape, 50))
            right = first
            choices = []
            for choice in bits:
                place = right.state["pc"]
                choices.append((table.get(place, (place + 1) % (1 << width)), *choice))
                right = right.beat(choices[-1])
            told = first.guided(table, bits)
            self.assertTrue(alike(told, right) and alike(first.run(tuple(choices)), told))
        loop = Computer(BYTE, (SET, PUT, step_word(12, 0, 0, 63)), {}, Near(8, 1))
        self.assertEqual(loop.guided({2: 1}, ((1, 0, 0),) * 12).steps, 10)
        self.assertLess(loop.guided({}, ((1, 0, 0),) * 12).steps, 7)
        self.assertEqual(loop.guided({place: 0 for place in range(256)}, ()), loop)
        # Behind the last place stands the first one.
        last = Computer(SMALL, (step_word(12, 0, 0, 63), *[SET] * 14, PUT), {}, Near(4, 1))
        self.assertEqual(last.guided({}, ((1, 0, 0),) * 4).run(((0, 1, 0, 0),)).state["pc"], 0)
        around = last.guided({0: 15}, ((1, 0, 0),) * 9)
        self.assertEqual([event for event in around.history if event[0] == "step"], [("step", beat, 15 * (beat % 2 == 0)) for beat in range(3, 10)])

    def test_bounds(self):
        loop = Computer(BYTE, (LOOP,), {}, Near(8, 1))
        last = loop.run(((0, 1, 0, 0),) * 3000)
        self.assertEqual((last.beats, last.steps), (3000, 2998))
        expect(self, TooMany, 3000, loop.run, ((0, 1, 0, 0),) * 3001)
        expect(self, TooMany, 3000, last.beat, (0, 1, 0, 0))
        expect(self, TooMany, 3000, last.run, ((0, 1, 0, 0),))
        expect(self, TooMany, 3000, last.guided, {}, ((1, 0, 0),))
        expect(self, TooMany, 3000, loop.guided, {}, ((1, 0, 0),) * 3001)
        expect(self, InvalidChoice, None, last.beat, (0, 1, 0, 2))
        self.assertEqual(last.run(()), last)
        self.assertEqual(loop.run(((0, 1, 0, 0),) * 2999).beat((0, 1, 0, 0)), last)
        gated = Computer(SMALL, (LOOP,), {}, Near(4, 1), gates=True)
        last = gated.run(((0, 1, 0, 0),) * 400)
        self.assertEqual((last.beats, last.steps), (400, 398))
        expect(self, TooMany, 400, gated.run, ((0, 1, 0, 0),) * 401)
        expect(self, TooMany, 400, last.beat, (0, 1, 0, 0))
        expect(self, TooMany, 400, last.guided, {}, ((1, 0, 0),))
        woken = Computer(SMALL, (LOOP,), {}, Near(4, 1), gates=True, waking=first_pipe(SMALL))
        self.assertEqual(woken.run(((0, 1, 0, 0),) * 400).beats, 400)

    def test_errors(self):
        near = Near(4, 1, ((True, 3, False, 1, 2), (False, 0, True, 1, 1)))
        turning = Near(4, 1, None, ("fill", 0, 0, 2))
        nears = NEAR_WRONG + [Near(5, 1), turning, Near(4, 1, ((True, 3, False, 1, 3), near.lines[1])), Near(4, 1, near.lines[:1] * 2)]
        good = (SMALL, (SET, PUT), {6: 1, 7: 2}, near)
        wrong = [(0, InvalidShape, WRONG_SHAPES), (1, InvalidProgram, WRONG_PROGRAMS), (2, InvalidMemory, WRONG_MEMORIES + [None])]
        gates = [("gates", InvalidOperation, odd_but(True, False) + [0, 1]), ("waking", InvalidState, [value for value in STATES if value is not None])]
        check_refused(self, Computer, good, wrong + [(3, InvalidLines, nears)] + gates, {"gates": True, "waking": first_pipe(SMALL)})
        expect(self, InvalidLines, None, Computer, SMALL, (SET,), {}, near)
        computer = Computer(*good)
        check_refused(self, computer.beat, ((3, 1, 0, 0),), [(0, InvalidChoice, CHOICE_WRONG)])
        check_refused(self, computer.run, (((3, 1, 0, 0),),), [(0, InvalidChoice, CHOICES_WRONG)])
        tables = odd_but({}, {0: 0}) + [{16: 0}, {0: 16}, {-1: 0}, {True: 0}, {0: False}, {0: None}, {"0": 0}, ((0, 0),), None]
        rows = odd_but((), (0, 0, 0)) + [((1, 0),), ((1, 0, 0, 0),), ((2, 0, 0),), ((1, True, 0),), ((1, 0, None),), [(1, 0, 0)], (1, 0, 0), ([1, 0, 0],)]
        check_refused(self, computer.guided, ({3: 0}, ((1, 0, 0),)), [(0, InvalidOperation, tables), (1, InvalidChoice, rows)])
        wide = Computer(Shape(16, 2), (SET,), {}, Near(16, 1))
        self.assertIsNone(error_of(wide.guided, {place: 0 for place in range(300)}, ()))
        expect(self, InvalidOperation, None, wide.guided, {place: 0 for place in range(301)}, ())

    def test_calls_change_nothing(self):
        first = Computer(BYTE, (SET, STORE, PUT, END), {1: 2}, Near(8, 1))
        computer = first.run(((1, 1, 0, 0), (2, 1, 0, 0), (3, 1, 0, 0), (4, 1, 0, 0)))
        before = [(name, getattr(computer, name)) for name in ("memory", "state", "history", "beats", "near", "outputs")]
        for table in (computer.memory, computer.state, computer.words()):
            table.clear()
        computer.beat((5, 1, 0, 0))
        computer.run(((5, 1, 0, 0),) * 9)
        computer.guided({}, ((1, 0, 0),) * 9)
        for bad in ((5, 1, 0, 2), (256, 1, 0, 0)):
            self.assertIsInstance(error_of(computer.run, ((5, 1, 0, 0), bad)), InvalidChoice)
        self.assertEqual(before, [(name, getattr(computer, name)) for name, _ in before])
        self.assertEqual(first.state, first_pipe(BYTE))


class HistoryTest(unittest.TestCase):
    def test_drawn(self):
        source = random_source(7)
        refused = bells_taken = 0
        for turn in range(800):
            shape = SHAPES[turn % len(SHAPES)]
            program, memory = (ALLOW, SET, ALLOW, *some_program(source, source.randrange(1, 9))), some_memory(source, shape)
            program = program[source.randrange(4):]
            most = source.randrange(30)
            bells = tuple(sorted(source.sample(range(1, 35), source.choice((0, 0, 1, 1, 2, 5)))))
            if source.randrange(2):
                m, bells = {**ahead_of_all(shape), "memory": memory}, []
                for number in range(1, most + 1):
                    if not m["ended"]:
                        m, taken = plain_step(shape, program, m, source.randrange(2))
                        bells += [number] * taken
                bells = tuple(bells)
            right = history_by_words(shape, program, memory, bells, most)
            if isinstance(right, int):
                refused += 1
                expect(self, Refused, ("bell", right), told_history, shape, program, memory, bells, most)
            else:
                bells_taken += len(bells) > 0
                self.assertTrue(alike(told_history(shape, program, memory, bells, most), right))
                self.assertEqual(told_history(shape, program, memory, bells + (3001, 10 ** 59), most), right)
        self.assertTrue(refused > 100 and bells_taken > 40, (refused, bells_taken))

    def test_kinds(self):
        program = (SET, ALLOW, PUT, END)
        right = (("step", 0), ("step", 1), ("bell",), ("step", 1), ("step", 2), ("put", 3), ("step", 3), ("end",))
        self.assertTrue(alike(told_history(BYTE, program, {}, (2,), 3000), right))
        self.assertEqual(told_history(BYTE, program, {}, (2,), 3), right[:4])
        self.assertEqual(told_history(BYTE, program, {}, (2,), 0), ())
        self.assertEqual(told_history(BYTE, program, {}, (), 1), (("step", 0),))
        self.assertEqual(told_history(BYTE, (WORD,), {}, (), 9), (("step", 0), ("fault", "word")))
        self.assertEqual(told_history(BYTE, (PART,), {}, (), 9), (("step", 0), ("fault", "divide")))
        for bells, most, number in (((1,), 9, 1), ((1, 2), 9, 1), ((2, 6), 9, 6), ((2, 5, 6), 9, 5), ((4,), 9, 4), ((9,), 9, 9), ((4, 5), 3000, 4)):
            right = number
            self.assertEqual(history_by_words(BYTE, program, {}, bells, most), right)
            expect(self, Refused, ("bell", number), told_history, BYTE, program, {}, bells, most)
        for bells in ((10,), (2, 10), (2, 3001)):
            self.assertIsNone(error_of(told_history, BYTE, program, {}, bells, 9))
        self.assertEqual(len(told_history(BYTE, (LOOP,), {}, (), 3000)), 3000)
        put_and_bell = (SET, ALLOW, PUT)
        self.assertEqual(told_history(BYTE, put_and_bell, {}, (3,), 3)[2:], (("step", 2), ("put", 3), ("bell",)))

    def test_errors(self):
        bells = odd_but((), (0,)) + [(0,), (2, 2), (3, 1), (-1,), (True,), (1, None), [1], (1, 10 ** 70)]
        check_refused(self, told_history, (SMALL, (SET, ALLOW), {1: 2}, (2,), 3), [
            (0, InvalidShape, WRONG_SHAPES), (1, InvalidProgram, WRONG_PROGRAMS), (2, InvalidMemory, WRONG_MEMORIES + [None]),
            (3, InvalidOperation, bells), (4, InvalidNumber, numbers_but(0, 3000))])
        for function in (bells_of, most_waits):
            check_refused(self, function, (Computer(SMALL, (SET,), {}, Near(4, 1)),), [(0, InvalidOperation, COMPUTERS_WRONG)])

    def test_bells_and_waits(self):
        first = Computer(BYTE, (SET, ALLOW, step_word(15, 1, 0, 2)), {}, Near(8, 1))
        self.assertEqual((bells_of(first), most_waits(first)), ((), 0))
        last = first.guided({}, ((1, 0, 1),) * 30)
        self.assertTrue(alike(bells_of(last), tuple(range(2, last.steps + 1))))
        self.assertEqual(len(bells_of(last)), sum(event[0] == "bell" for event in last.history))


class MainTest(unittest.TestCase):
    def test_foes_change_beats_alone(self):
        """Computers with one program and memory under unlike foes without bells: one row of events, and of outputs."""
        source = random_source(8)
        for turn in range(40):
            first = some_computer(source, SHAPES[turn % len(SHAPES)])
            words = first.words()
            runs = [first.run(some_choices(source, first.shape, 150)) for _ in range(2)]
            runs.append(Computer(first.shape, first.program, words, Near(first.shape.width, 2)).run(
                tuple((guess, ready, way, 0) for guess, ready, way, _ in some_choices(source, first.shape, 150))))
            rows = [tuple((event[0], *event[2:]) for event in run.history) for run in runs if not bells_of(run)]
            for one, other in itertools.combinations(rows, 2):
                many = min(len(one), len(other))
                self.assertEqual(one[:many], other[:many])

    def test_not_true(self):
        """[0.15], [19.6]: a right guess may cost more than a beat, and a bell is not taken at the beat at which it rings."""
        loads = Computer(BYTE, (LOAD, PUT, END), {2: 5}, Near(8, 1, ((True, 1, False, 5, 0), (False, 0, False, 0, 0))))
        done = [event[1] for event in loads.guided({}, ((1, 0, 0),) * 9).history if event[0] == "step"]
        self.assertEqual(done, [3, 5, 6])
        late = Computer(BYTE, (SET, ALLOW, SET), {}, Near(8, 1)).guided({}, ((1, 0, 1),) * 4)
        self.assertEqual(bells_of(late), (2,))
        self.assertNotIn(("bell", 1), late.history)
        # A computer that has ended may have words in near lines alone.
        stored = Computer(BYTE, (SET, STORE, END), {}, Near(8, 1)).guided({}, ((1, 0, 0),) * 12)
        self.assertEqual((stored.meaning().ended, stored.memory, stored.words()), (("end",), {}, {2: 3}))


if __name__ == "__main__":
    unittest.main()
