"""The one-beat machine [12.1] to [12.4]."""

import itertools
import unittest

from machines_made import ENDS, SHAPES, at, plain_step, signed, single_fields, some_fields, some_step, step_word
from support import PLAIN, check_own_kinds, check_refused, expect, numbers_but, odd_but, random_source
from test_machine import WRONG_MEMORIES, WRONG_PROGRAMS, WRONG_SHAPES, made
from truebeat.core.single import plain_of, single_beat, single_fault, single_net, single_of, single_sheet
from truebeat.errors import (
    InvalidChoice, InvalidInputs, InvalidMemory, InvalidNet, InvalidNumber, InvalidOperation, InvalidProgram,
    InvalidShape, InvalidState)
from truebeat.nets.net import is_net
from truebeat.plain.machine import Plain
from truebeat.plain.shapes import Shape
from truebeat.sheets.lay import bits_of, lay, lay_fault
from truebeat.sheets.sheet import is_sheet, ports_of, sheet_beat

SMALL = Shape(4, 2)
GOOD = {"pc": 1, "r1": 7, "saved": 0, "allowed": 1, "ended": 0}
WIRES = ("ask", "done", "ended", "fetch", "give", "place", "put", "put_word", "rang")
STATES = odd_but() + [
    {**GOOD, "pc": 16}, {**GOOD, "r1": -1}, {**GOOD, "allowed": 2}, {**GOOD, "allowed": True}, {**GOOD, "ended": 4},
    {**GOOD, "r2": 0}, {**GOOD, "r0": 0}, {name: word for name, word in GOOD.items() if name != "saved"},
    {**GOOD, "saved": None}, tuple(GOOD.items()), {**GOOD, "ended": False}]
BITS = odd_but(0, 1) + [2, -1]


def right_beat(shape, state, word, data, bell, reset=0):
    """The state behind a beat and its wires, by the words of [12.2] and the tests' own plain machine."""
    wires = {**dict.fromkeys(WIRES, 0), "fetch": state["pc"]}
    if reset:
        return dict.fromkeys(single_fields(shape), 0), wires
    if state["ended"]:
        return dict(state), {**wires, "ended": state["ended"]}
    held = [0] + [state[f"r{number}"] for number in range(1, shape.registers)]
    op, b = word >> 12, (word >> 6 & 7) % shape.registers
    place = (held[b] + signed(6, word & 63)) % (1 << shape.width)
    m = {"pc": state["pc"], "held": held, "memory": {place: data}, "saved": state["saved"],
         "allowed": state["allowed"], "ended": 0, "outputs": []}
    behind, rang = plain_step(shape, (0,) * state["pc"] + (word,), m, bell)
    wires.update(done=1, rang=int(rang), ended=behind["ended"])
    if behind["outputs"]:
        wires.update(put=1, put_word=behind["outputs"][0])
    if op == 10:
        wires.update(ask=1, place=place)
    if op == 11:
        wires.update(ask=2, place=place, give=held[(word >> 9 & 7) % shape.registers])
    told = {"pc": behind["pc"], "saved": behind["saved"], "allowed": behind["allowed"], "ended": behind["ended"]}
    told.update({f"r{number}": behind["held"][number] for number in range(1, shape.registers)})
    return told, wires


def some_beat(source, shape):
    state = some_fields(source, single_fields(shape))
    if source.randrange(4):
        state["ended"] = 0
    state["pc"] = source.choice((state["pc"] % 64, state["pc"] % 64, (1 << shape.width) - 1))
    word = source.choice((some_step(source), source.randrange(65536)))
    return state, word, source.randrange(1 << shape.width), source.randrange(2)


class BeatsTest(unittest.TestCase):
    def test_the_example(self):
        state, wires = single_beat(SMALL, GOOD, step_word(11, 1, 0, 2), 0, 1)
        self.assertEqual(
            [state, [wires[name] for name in ("ask", "place", "give", "done", "rang")]],
            [{"allowed": 0, "ended": 0, "pc": 1, "r1": 7, "saved": 2}, [2, 2, 7, 1, 1]])

    def check_beat(self, shape, state, word, data, bell, reset=0):
        told = single_beat(shape, state, word, data, bell, reset=reset)
        self.assertEqual(told, right_beat(shape, state, word, data, bell, reset), (str(shape), state, word, data, bell))
        return told

    def test_every_state_of_the_smallest_shape(self):
        source = random_source(1)
        widths = single_fields(SMALL)
        sheet, net = single_sheet(SMALL), single_net(SMALL)
        ports = ports_of(sheet)
        for turn, values in enumerate(itertools.product(*[range(1 << bits) for bits in widths.values()])):
            state = dict(zip(widths, values))
            word = source.choice((some_step(source), source.randrange(65536)))
            data, bell, reset = source.randrange(16), source.randrange(2), int(source.randrange(8) == 0)
            right = self.check_beat(SMALL, state, word, data, bell, reset)
            if turn % 7 == 0:
                inputs = {"word": word, "data": data, "bell": bell, "reset": reset}
                self.assertEqual(sheet_beat(sheet, state, inputs), right[::-1])
                self.assertIsNone(single_fault(SMALL, net, state, word, data, bell, reset=reset))
                if turn % 77 == 0:
                    self.assertIsNone(lay_fault(sheet, net, state, inputs))
                    self.assertEqual(set(bits_of(ports[1], state)), {cell[1] for cell in net[0] if cell[0] == "keep"})

    def test_drawn_states(self):
        source = random_source(2)
        for shape in SHAPES:
            for _ in range(400):
                told = self.check_beat(shape, *some_beat(source, shape), int(source.randrange(9) == 0))
                check_own_kinds(self, told)
            self.check_beat(shape, dict.fromkeys(single_fields(shape), 0), 0, 0, 0)

    def test_each_operation(self):
        source = random_source(3)
        for shape, word in itertools.product(SHAPES[:5], [step_word(op, 1, a, c) for op in range(16) for a in (0, 1)
                                                          for c in (range(9) if op == 15 else (0, 1, 63))]):
            state, _, data, bell = some_beat(source, shape)
            state["ended"] = 0
            told, wires = self.check_beat(shape, state, word, data, bell)
            # What is asked does not hang on data.
            again = single_beat(shape, state, word, data ^ 1, bell)[1]
            self.assertEqual([wires[name] for name in ("ask", "place", "give")],
                             [again[name] for name in ("ask", "place", "give")])

    def test_beats_are_steps(self):
        source = random_source(4)
        for shape in SHAPES:
            for _ in range(60):
                state, word, _, bell = some_beat(source, shape)
                state["ended"] = 0
                program = (0,) * min(state["pc"], 255) + (word,)
                word = at(program, state["pc"])
                memory = {source.randrange(1 << shape.width): source.randrange(1, 1 << shape.width) for _ in range(5)}
                plain = plain_of(shape, state, program, memory)
                wires = single_beat(shape, state, word, 0, bell)[1]
                behind, wires = single_beat(shape, state, word, memory.get(wires["place"], 0), bell)
                if wires["ask"] == 2:
                    memory = {place: kept for place, kept in {**memory, wires["place"]: wires["give"]}.items() if kept}
                right = plain.step(bell)
                self.assertEqual(single_of(right), behind)
                self.assertEqual(right.memory, memory)
                self.assertEqual(right.outputs, (wires["put_word"],) if wires["put"] else ())
                self.assertEqual(made(shape, program, {
                    "pc": behind["pc"], "held": list(right.registers), "memory": memory, "saved": behind["saved"],
                    "allowed": behind["allowed"], "ended": behind["ended"], "outputs": list(right.outputs)}), right)

    def test_meanings(self):
        for ended, told in ENDS.items():
            state = {**GOOD, "ended": ended}
            plain = plain_of(SMALL, state, (1, 2), {3: 4})
            self.assertEqual(plain, Plain(SMALL, (1, 2), pc=1, registers=(0, 7), memory={3: 4}, allowed=True, ended=told))
            self.assertEqual(single_of(plain), state)
            self.assertEqual(list(single_of(plain)), sorted(state))
            check_own_kinds(self, single_of(plain))
        self.assertEqual(single_of(Plain(SMALL, (1,), pc=1, registers=(0, 7), allowed=True, outputs=(3,))), GOOD)

    def test_errors(self):
        words, data = (2, InvalidNumber, numbers_but(0, 65535)), (3, InvalidInputs, numbers_but(0, 15))
        check_refused(self, single_beat, (SMALL, GOOD, 3, 5, 1), [
            (0, InvalidShape, WRONG_SHAPES), (1, InvalidState, STATES), words, data, (4, InvalidChoice, BITS),
            ("reset", InvalidChoice, BITS)], {"reset": 0})
        check_refused(self, plain_of, (SMALL, GOOD, (0,), {1: 1}), [
            (0, InvalidShape, WRONG_SHAPES), (1, InvalidState, STATES), (2, InvalidProgram, WRONG_PROGRAMS),
            (3, InvalidMemory, WRONG_MEMORIES + [None])])
        check_refused(self, single_of, (Plain(SMALL, (0,)),), [(0, InvalidState, odd_but(PLAIN) + [GOOD, SMALL])])
        expect(self, InvalidState, None, single_beat, Shape(4, 4), GOOD, 0, 0, 0)


class NetsTest(unittest.TestCase):
    def test_sheets_and_nets_of_all_shapes(self):
        source = random_source(5)
        for width, many in itertools.product(range(4, 17), (2, 4, 8)):
            shape = Shape(width, many)
            sheet, net = single_sheet(shape), single_net(shape)
            self.assertTrue(is_sheet(sheet) and is_net(net))
            inputs = {"word": 16, "data": width, "bell": 1, "reset": 1}
            wires = {**dict.fromkeys(WIRES, 1), "ask": 2, "ended": 2,
                     **dict.fromkeys(("fetch", "place", "give", "put_word"), width)}
            self.assertEqual(ports_of(sheet), (inputs, single_fields(shape), wires))
            self.assertTrue(all(line[3] is None for line in sheet[0] if line[0] == "keep"))
            self.assertLessEqual(len(net[0]), 6000)
            for _ in range(12):
                state, word, data, bell = some_beat(source, shape)
                reset = int(source.randrange(6) == 0)
                self.assertIsNone(single_fault(shape, net, state, word, data, bell, reset=reset))
                told = {"word": word, "data": data, "bell": bell, "reset": reset}
                self.assertEqual(sheet_beat(sheet, state, told)[::-1], single_beat(shape, state, word, data, bell,
                                                                                  reset=reset))

    def test_bent_nets(self):
        # Whatever one cell does otherwise, the fault that is told is the one that the sheet tells.
        source = random_source(6)
        sheet, net = single_sheet(SMALL), single_net(SMALL)
        found = set()
        for _ in range(150):
            index = source.choice([index for index, cell in enumerate(net[0]) if cell[0] in ("and", "or", "xor", "pick")])
            cell = net[0][index]
            bent = (*cell[:1], *cell[2:], cell[1]) if cell[0] == "pick" else (
                {"and": "or", "or": "xor", "xor": "and"}[cell[0]], *cell[1:])
            wrong = (net[0][:index] + (bent,) + net[0][index + 1:], net[1])
            state, word, data, bell = some_beat(source, SMALL)
            told = single_fault(SMALL, wrong, state, word, data, bell)
            self.assertEqual(told, lay_fault(sheet, wrong, state, {"word": word, "data": data, "bell": bell, "reset": 0}))
            found.add(told and told[0])
        self.assertEqual(found, {None, "output", "keeper"})

    def test_told_faults(self):
        net = single_net(SMALL)
        outputs = dict(net[1])
        swapped = (net[0], tuple({**outputs, "fetch.0": outputs["fetch.1"], "rang.0": outputs["fetch.1"]}.items()))
        self.assertEqual(single_fault(SMALL, swapped, GOOD, 0, 0, 0), ("output", "fetch.0"))
        self.assertEqual(single_fault(SMALL, swapped, {**GOOD, "pc": 2}, 0, 0, 0), ("output", "fetch.0"))
        self.assertEqual(single_fault(SMALL, swapped, {**GOOD, "pc": 3}, 0, 0, 0), ("output", "rang.0"))
        self.assertIsNone(single_fault(SMALL, swapped, {**GOOD, "pc": 0}, 0, 0, 0))

    def test_errors(self):
        net = single_net(SMALL)
        other = lay((single_sheet(SMALL)[0], single_sheet(SMALL)[1][:-1]))
        nets = odd_but() + [net[0], (net[0] * 2, ()), single_sheet(SMALL)]
        check_refused(self, single_fault, (SMALL, net, GOOD, 3, 5, 1), [
            (0, InvalidShape, WRONG_SHAPES), (1, InvalidNet, nets), (2, InvalidState, STATES),
            (3, InvalidNumber, numbers_but(0, 65535)), (4, InvalidInputs, numbers_but(0, 15)), (5, InvalidChoice, BITS),
            ("reset", InvalidChoice, BITS)], {"reset": 1})
        expect(self, InvalidOperation, None, single_fault, SMALL, other, GOOD, 3, 5, 1)
        expect(self, InvalidChoice, None, single_fault, SMALL, other, GOOD, 3, 5, 1, reset=2)
        wide = {**GOOD, "r2": 0, "r3": 0}
        expect(self, InvalidOperation, None, single_fault, Shape(4, 4), net, wide, 3, 5, 1)
        for function in (single_sheet, single_net):
            check_refused(self, function, (SMALL,), [(0, InvalidShape, WRONG_SHAPES)])


if __name__ == "__main__":
    unittest.main()
