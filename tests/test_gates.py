"""The pipe in gates [14.1] to [14.5], and [10.6]."""

import itertools
import unittest

from machines_made import SHAPES, pipe_fields, pipe_step, some_choice, some_memory, some_pipe, some_program, some_step
from support import check_judge, check_own_kinds, check_refused, expect, numbers_but, odd_but, random_source
from test_machine import WRONG_SHAPES
from test_meaning import some_kept
from test_pipe import CHOICES, STATES
from truebeat.core.gates import beat_fault, core_net, core_ports, core_sheet, has_core_names, net_beat
from truebeat.core.meaning import is_kept, meaning, rank, square
from truebeat.core.pipe import first_pipe, pipe_beat
from truebeat.errors import InvalidChoice, InvalidNet, InvalidNumber, InvalidOperation, InvalidShape, InvalidState
from truebeat.judge.waking import three_beat
from truebeat.nets.net import inputs_of, is_net, keepers_of
from truebeat.nets.walk import run
from truebeat.plain.shapes import Shape
from truebeat.sheets.lay import bits_of, lay_fault
from truebeat.sheets.sheet import is_sheet, ports_of, sheet_beat

SMALL = Shape(4, 2)
NET = core_net(SMALL)
NETS = {}
EVERY = [Shape(width, many) for width, many in itertools.product(range(4, 17), (2, 4, 8))]


def net_of(shape):
    """The net of a shape, made once."""
    key = (shape.width, shape.registers)
    if key not in NETS:
        NETS[key] = core_net(shape)
    return NETS[key]


def ports(shape):
    w = shape.width
    return ({"word": 16, "guess": w, "ready": 1, "data": w, "bell": 1, "reset": 1}, pipe_fields(shape),
            {"fetch": w, "ask": 2, "place": w, "give": w, "done": 1, "done_pc": w, "put": 1, "put_word": w, "rang": 1,
             "ended": 2})


def right_beat(shape, state, word, choice, reset=0):
    """What a core does, by the words of [14.2] and the tests' own pipe."""
    behind, wires = pipe_step(shape, state, word, choice, reset)
    return behind, {**wires, "fetch": state["pc"], "ask": state["m_kind"] % 3, "place": state["m_x"], "give": state["m_y"]}


def given(word, choice, reset=0):
    return {"word": word, **dict(zip(("guess", "ready", "data", "bell"), choice)), "reset": reset}


class PortsTest(unittest.TestCase):
    def test_ports(self):
        for shape in EVERY:
            told = core_ports(shape)
            self.assertEqual(told, ports(shape))
            check_own_kinds(self, told)
            sheet = core_sheet(shape)
            self.assertIs(is_sheet(sheet), True)
            self.assertEqual(ports_of(sheet), told)
            self.assertTrue(all(line[3] is None for line in sheet[0] if line[0] == "keep"))

    def test_nets(self):
        for shape in EVERY:
            net = net_of(shape)
            self.assertIs(is_net(net), True)
            self.assertLessEqual(len(net[0]), 6000)
            self.assertIs(has_core_names(shape, net), True)
            check_own_kinds(self, net)
            inputs, fields, outputs = ports(shape)
            self.assertEqual(sorted(inputs_of(net)), sorted(bits_of(inputs, dict.fromkeys(inputs, 0))))
            self.assertEqual(sorted(keepers_of(net)), sorted(bits_of(fields, dict.fromkeys(fields, 0))))
            self.assertEqual(sorted(dict(net[1])), sorted(bits_of(outputs, dict.fromkeys(outputs, 0))))

    def test_the_example(self):
        self.assertEqual(
            [core_ports(SMALL)[1]["x_word"], sorted(core_ports(SMALL)[0]), has_core_names(SMALL, NET),
             has_core_names(Shape(5, 2), NET)],
            [16, ["bell", "data", "guess", "ready", "reset", "word"], True, False])

    def test_names(self):
        cells, outputs = NET
        at = next(index for index, cell in enumerate(cells) if cell[0] == "keep")
        inside = next(index for index, cell in enumerate(cells) if cell[0] == "in")

        def with_cell(index, cell):
            return cells[:index] + (cell,) + cells[index + 1:], outputs

        wrongs = [(cells, outputs[:-1]), (cells, outputs + (("more", 0),)), (cells, (("other", 0),) + outputs[1:]),
                  with_cell(at, (*cells[at][:2], 0, cells[at][3])), with_cell(at, ("keep", "k", None, 0)),
                  with_cell(at, (*cells[at][:2], 1, cells[at][3])), with_cell(inside, ("in", "word.16")),
                  (cells + (("in", "more"),), outputs), (cells + (("keep", "more", None, 0),), outputs), cells,
                  core_sheet(SMALL), (list(cells), outputs), net_of(Shape(4, 4)), net_of(Shape(5, 2))]
        other = (cells + (("one",),), tuple(reversed(outputs)))
        check_judge(self, has_core_names, (SMALL,), [NET, other, (cells, tuple((name, 0) for name, _ in outputs))], wrongs)
        for value in WRONG_SHAPES:
            expect(self, InvalidShape, None, has_core_names, value, NET)


class BeatsTest(unittest.TestCase):
    def check_beats(self, source, shape, many, state_of):
        net = net_of(shape)
        for _ in range(many):
            state, word, choice = state_of(), some_step(source), some_choice(source, shape)
            reset = int(source.randrange(12) == 0)
            told = net_beat(shape, net, state, word, choice, reset=reset)
            self.assertEqual(told, right_beat(shape, state, word, choice, reset), (str(shape), state, word, choice))
            self.assertIsNone(beat_fault(shape, net, state, word, choice, reset=reset))
            check_own_kinds(self, told)

    def test_any_state(self):
        source = random_source(1)
        for shape in EVERY:
            self.check_beats(source, shape, 12, lambda: some_pipe(source, shape))
        for shape in SHAPES:
            self.check_beats(source, shape, 40, lambda: some_pipe(source, shape))

    def test_kept_states(self):
        source = random_source(2)
        for shape in SHAPES:
            program, memory = some_program(source, 9), some_memory(source, shape)
            self.check_beats(source, shape, 20, lambda: some_kept(source, shape, program, memory))

    def test_lanes(self):
        # Many states at once, in the lanes of one walk.
        source = random_source(3)
        for shape in SHAPES:
            net, (inputs, fields, outputs) = net_of(shape), ports(shape)
            states = [some_pipe(source, shape) for _ in range(64)]
            words, choices = [some_step(source) for _ in states], [some_choice(source, shape) for _ in states]
            lanes = [bits_of(fields, state) for state in states]
            rows = [bits_of(inputs, given(word, choice)) for word, choice in zip(words, choices)]
            whole = [{name: sum(row[name] << lane for lane, row in enumerate(table)) for name in table[0]}
                     for table in (lanes, rows)]
            (told,), last = run(net, 64, whole[0], (whole[1],))
            for lane, (state, word, choice) in enumerate(zip(states, words, choices)):
                behind, wires = right_beat(shape, state, word, choice)
                self.assertEqual({name: told[name] >> lane & 1 for name in told}, bits_of(outputs, wires))
                self.assertEqual({name: last[name] >> lane & 1 for name in last}, bits_of(fields, behind))

    def test_sheets(self):
        source = random_source(4)
        for shape in SHAPES:
            sheet, net = core_sheet(shape), net_of(shape)
            for turn in range(25):
                state, word, choice = some_pipe(source, shape), some_step(source), some_choice(source, shape)
                told = sheet_beat(sheet, state, given(word, choice))
                self.assertEqual(told[::-1], right_beat(shape, state, word, choice))
                if turn < 3:
                    self.assertIsNone(lay_fault(sheet, net, state, given(word, choice)))

    def test_resets(self):
        source = random_source(5)
        for shape in SHAPES:
            for _ in range(10):
                state, word, choice = some_pipe(source, shape), source.randrange(65536), some_choice(source, shape)
                told, wires = net_beat(shape, net_of(shape), state, word, choice, reset=1)
                self.assertEqual(told, first_pipe(shape))
                self.assertEqual([wires[name] for name in ("done", "done_pc", "put", "put_word", "rang", "ended")], [0] * 6)

    def test_what_is_known_behind_a_reset(self):
        for shape in EVERY:
            net = net_of(shape)
            inputs = {**dict.fromkeys(inputs_of(net)), "reset.0": 1}
            _, state = three_beat(net, dict.fromkeys(keepers_of(net)), inputs)
            self.assertEqual(state, bits_of(pipe_fields(shape), first_pipe(shape)))

    def test_runs_of_the_net_mean_plain_runs(self):
        # From any waking, behind one beat of reset, each beat is what a square says.
        source = random_source(6)
        for shape in SHAPES[:5]:
            program, memory = some_program(source, 12), some_memory(source, shape)
            net = net_of(shape)
            state, _ = net_beat(shape, net, some_pipe(source, shape), 5, some_choice(source, shape), reset=1)
            for _ in range(60):
                guess = source.choice(((state["pc"] + 1) % (1 << shape.width), source.randrange(3)))
                ready, bell = int(source.randrange(4) > 0), source.randrange(2)
                word = program[state["pc"]] if state["pc"] < len(program) else 65535
                data = memory.get(state["m_x"], 0)
                told, wires = net_beat(shape, net, state, word, (guess, ready, data, bell))
                what, right, later = square(shape, state, memory, program, (guess, ready, bell))
                self.assertEqual(told, right)
                self.assertEqual((wires["done"], wires["rang"]), {
                    "wait": (0, 0), "inner": (0, 0), "step": (1, 0), "bell": (1, 1)}[what])
                self.assertIs(is_kept(shape, told, later, program), True)
                if what == "inner" and not state["ended"]:
                    self.assertLess(rank(shape, told), rank(shape, state))
                if wires["done"]:
                    self.assertEqual(meaning(shape, state, memory, program).step(wires["rang"]).pc,
                                     meaning(shape, told, later, program).pc)
                state, memory = told, later


class FaultsTest(unittest.TestCase):
    def test_one_cell_bent(self):
        source = random_source(7)
        gates = [index for index, cell in enumerate(NET[0]) if cell[0] in ("and", "or", "xor", "not")]
        found = {}
        for index in source.sample(gates, 60):
            cell = NET[0][index]
            bent = ("and", cell[1], cell[1]) if cell[0] == "not" else (
                {"and": "or", "or": "xor", "xor": "and"}[cell[0]], *cell[1:])
            wrong = (NET[0][:index] + (bent,) + NET[0][index + 1:], NET[1])
            for _ in range(12):
                state, word, choice = some_pipe(source, SMALL), some_step(source), some_choice(source, SMALL)
                told, wires = net_beat(SMALL, wrong, state, word, choice)
                right, right_wires = right_beat(SMALL, state, word, choice)
                outputs = sorted(name for name in wires if wires[name] != right_wires[name])
                fields = sorted(name for name in told if told[name] != right[name])
                fault = ("output", outputs[0]) if outputs else ("field", fields[0]) if fields else None
                self.assertEqual(beat_fault(SMALL, wrong, state, word, choice), fault)
                found[fault and fault[0]] = found.get(fault and fault[0], 0) + 1
        self.assertEqual(set(found), {None, "output", "field"})
        self.assertGreater(min(found.values()), 3)

    def test_told_faults(self):
        cells, outputs = NET
        told = dict(outputs)
        swapped = (cells, tuple({**told, "place.0": told["place.1"], "fetch.3": told["fetch.2"]}.items()))
        state, choice = first_pipe(SMALL), (1, 1, 0, 0)
        self.assertIsNone(beat_fault(SMALL, swapped, state, 0, choice))
        self.assertEqual(beat_fault(SMALL, swapped, {**state, "m_x": 1}, 0, choice), ("output", "place"))
        self.assertEqual(beat_fault(SMALL, swapped, {**state, "m_x": 1, "pc": 8}, 0, choice), ("output", "fetch"))
        at = next(index for index, cell in enumerate(cells) if cell[:2] == ("keep", "d_word.7"))
        stuck = (cells[:at] + ((*cells[at][:3], at),) + cells[at + 1:], outputs)
        self.assertEqual(beat_fault(SMALL, stuck, state, 128, choice), ("field", "d_word"))
        self.assertIsNone(beat_fault(SMALL, stuck, state, 127, choice))

    def test_what_is_not_true(self):
        # A net without a fault at kept states, with one at a state that is not kept: it waits for a kind 3, too.
        cells, outputs = NET
        told = dict(outputs)
        kind = [next(index for index, cell in enumerate(cells) if cell[:2] == ("keep", f"m_kind.{bit}")) for bit in (0, 1)]
        other = (cells, tuple({**told, "ask.0": kind[0], "ask.1": kind[1]}.items()))
        source = random_source(8)
        program, memory = some_program(source, 6), some_memory(source, SMALL)
        for _ in range(30):
            state = some_kept(source, SMALL, program, memory)
            self.assertIsNone(beat_fault(SMALL, other, state, 0, (1, 1, 0, 0)))
        self.assertEqual(beat_fault(SMALL, other, {**first_pipe(SMALL), "m_kind": 3}, 0, (1, 1, 0, 0)), ("output", "ask"))
        self.assertEqual(net_beat(SMALL, NET, {**first_pipe(SMALL), "m_to": 1, "m_x": 7}, 0, (1, 1, 0, 0))[1]["place"], 7)

    def test_errors(self):
        nets = odd_but() + [NET[0], core_sheet(SMALL), (NET[0] * 2, NET[1])]
        good = (SMALL, NET, first_pipe(SMALL), 5, (3, 1, 9, 0))
        wrong = [(0, InvalidShape, WRONG_SHAPES), (1, InvalidNet, nets), (2, InvalidState, STATES),
                 (3, InvalidNumber, numbers_but(0, 65535)), (4, InvalidChoice, CHOICES),
                 ("reset", InvalidChoice, odd_but(0, 1) + [2])]
        other = (NET[0], NET[1][:-1])
        for function in (net_beat, beat_fault):
            check_refused(self, function, good, wrong, {"reset": 0})
            expect(self, InvalidOperation, None, function, SMALL, other, *good[2:])
            expect(self, InvalidOperation, None, function, SMALL, ((), ()), *good[2:])
            expect(self, InvalidChoice, None, function, SMALL, other, *good[2:], reset=None)
            expect(self, InvalidOperation, None, function, Shape(5, 2), NET, first_pipe(Shape(5, 2)), *good[3:])
        for function in (core_ports, core_sheet, core_net):
            check_refused(self, function, (SMALL,), [(0, InvalidShape, WRONG_SHAPES)])
        self.assertEqual(net_beat(*good)[0], pipe_beat(SMALL, *good[2:])[0])


if __name__ == "__main__":
    unittest.main()
