"""Nets laid from sheets [3.3] to [3.5]."""

import unittest

from sheets_made import COUNT, arithmetic, every_kind
from support import check_own_kinds, check_refused, expect, odd_but, random_source
from test_net import HALF
from test_sheet import SHEETS, some_word
from truebeat.errors import InvalidInputs, InvalidNet, InvalidOperation, InvalidSheet, InvalidState
from truebeat.nets.net import inputs_of, is_net, keepers_of
from truebeat.nets.walk import beat, run
from truebeat.sheets.lay import bits_of, lay, lay_fault, words_of
from truebeat.sheets.sheet import is_sheet, ports_of, sheet_beat, sheet_run, weight_of

EVERY = ((1, 1), (2, 3), (3, 2), (5, 4), (8, 2), (16, 5), (31, 31), (32, 6))


def names_for(widths):
    return sorted(f"{name}.{bit}" for name in widths for bit in range(widths[name]))


class LayTest(unittest.TestCase):
    def check_laid(self, sheet, turns, seed=1):
        net = lay(sheet)
        self.assertIs(is_net(net), True)
        self.assertLessEqual(len(net[0]), weight_of(sheet) + 2)
        inputs, keepers, outputs = ports_of(sheet)
        self.assertEqual(sorted(inputs_of(net)), names_for(inputs))
        self.assertEqual(sorted(keepers_of(net)), names_for(keepers))
        self.assertEqual(sorted(name for name, _ in net[1]), names_for(outputs))
        firsts = {line[1]: line[3] for line in sheet[0] if line[0] == "keep"}
        for cell in net[0]:
            if cell[0] == "keep":
                name, bit = cell[1].split(".")
                self.assertEqual(cell[2], None if firsts[name] is None else firsts[name] >> int(bit) & 1)
        source = random_source(seed)
        for _ in range(turns):
            state = {name: some_word(source, keepers[name]) for name in keepers}
            given = {name: some_word(source, inputs[name]) for name in inputs}
            words, behind = sheet_beat(sheet, state, given)
            told = beat(net, 1, bits_of(keepers, state), bits_of(inputs, given))
            self.assertEqual(told, (bits_of(outputs, words), bits_of(keepers, behind)))
            self.assertIsNone(lay_fault(sheet, net, state, given))
        return net

    def test_every_kind_of_line(self):
        for wide, key in EVERY:
            self.check_laid(every_kind(wide, key), 60)

    def test_each_kind_alone_within_its_weight(self):
        for wide, key in EVERY:
            lines, _ = every_kind(wide, key)
            for index in range(6, len(lines)):
                whole = (*lines[:6], lines[index])
                whole = tuple((*line[:4], 1) if line[0] == "keep" else line for line in whole)
                self.check_laid((whole, (("o", 6),)), 6)

    def test_arithmetic(self):
        for wide in (1, 2, 3, 4):
            sheet = arithmetic(wide, ("times", "part", "rest", "add", "less_by", "below", "under", "same"))
            net = self.check_laid(sheet, 1)
            for x in range(1 << wide):
                for y in range(1 << wide):
                    self.assertIsNone(lay_fault(sheet, net, {}, {"x": x, "y": y}))
        for wide in (8, 16, 31, 32):
            for words in (("times",), ("rest", "part"), ("part",), ("rest",)):
                self.check_laid(arithmetic(wide, words), 30)

    def test_small_words_at_all_states_and_inputs(self):
        sheet = every_kind(2, 2)
        net = lay(sheet)
        for n in range(1 << 9):
            state, given = {"y": n & 3, "z": n >> 2 & 3}, {"x": n >> 4 & 3, "k": n >> 6 & 3, "b": n >> 8}
            self.assertIsNone(lay_fault(sheet, net, state, given))

    def test_choose(self):
        for key in (1, 2, 3, 6, 7):
            for many in (1, 2, 3, 4, 5, 7, 8, 9, 31, 33, 63, 64):
                lines = (("in", "k", key),) + tuple(("told", 6, n) for n in range(many))
                sheet = (lines + (("choose", 0, tuple(range(1, many + 1))),), (("o", many + 1),))
                net = lay(sheet)
                self.assertLessEqual(len(net[0]), weight_of(sheet) + 2)
                for word in range(1 << key):
                    self.assertIsNone(lay_fault(sheet, net, {}, {"k": word}))
                fed = (("in", "k", key),) + tuple(("in", f"i{n}", 6) for n in range(many))
                self.check_laid((fed + sheet[0][-1:], sheet[1]), 12)

    def test_greatest_weight(self):
        lines = (("in", "x", 32), ("in", "b", 1)) + (("times", 0, 0),) * 2 + (("add", 0, 0),) * 18
        lines += (("not", 0),) + (("not", 1),) * 11
        sheet = (lines, tuple((f"o{n}", n) for n in (2, 3, 4, 21, 22, 31)))
        self.assertEqual(weight_of(sheet), 5900)
        self.check_laid(sheet, 20)
        lines = (("in", "k", 12), ("in", "x", 32), ("choose", 0, (1,) * 64))
        self.assertTrue(is_sheet((lines, (("o", 2),))))
        self.check_laid((lines, (("o", 2),)), 3)
        bits = (("in", "x", 1),) + (("not", 0),) * 999
        self.check_laid((bits, (("o", 999),)), 2)
        rests = (("in", "x", 32), ("in", "y", 32), ("rest", 0, 1), ("part", 0, 1), ("add", 2, 3), ("add", 2, 2))
        rests += (("add", 3, 3), ("add", 4, 4), ("add", 5, 5), ("not", 0), ("not", 1), ("cut", 0, 0, 12), ("not", 11))
        self.assertEqual(weight_of((rests, ())), 5900)
        self.check_laid((rests, (("o", 2), ("p", 3), ("q", 8), ("r", 12))), 20)

    def test_each_error_of_a_net_is_found_at_some_input(self):
        # A net of other gates is no net laid from the sheet.
        cells, outputs = lay(arithmetic(2, ("xor",)))
        wrong = (tuple(("or", *cell[1:]) if cell[0] == "xor" else cell for cell in cells), outputs)
        self.assertIsNone(lay_fault(arithmetic(2, ("xor",)), wrong, {}, {"x": 1, "y": 2}))
        self.assertEqual(lay_fault(arithmetic(2, ("xor",)), wrong, {}, {"x": 3, "y": 2}), ("output", "o_0.1"))

    def test_runs(self):
        rows = tuple({"up": n % 3 % 2} for n in range(40))
        told, last = sheet_run(COUNT, {"n": 9}, rows)
        inputs, keepers, outputs = ports_of(COUNT)
        given = tuple(bits_of(inputs, row) for row in rows)
        bits, behind = run(lay(COUNT), 1, bits_of(keepers, {"n": 9}), given)
        self.assertEqual(tuple(words_of(outputs, row) for row in bits), told)
        self.assertEqual(words_of(keepers, behind), last)

    def test_wrong_sheets(self):
        check_refused(self, lay, (COUNT,), [(0, InvalidSheet, SHEETS)])

    def test_what_is_not_true(self):
        # One net is laid from two sheets, and a line on which no output hangs weighs as any other.
        one = ((("in", "x", 2), ("and", 0, 0)), (("o", 1),))
        other = ((("in", "x", 2), ("or", 0, 0)), (("o", 1),))
        for x in range(4):
            self.assertIsNone(lay_fault(one, lay(other), {}, {"x": x}))
        self.assertEqual(weight_of((one[0], ())), 4)


class FaultTest(unittest.TestCase):
    def test_faults(self):
        cells, outputs = lay(COUNT)
        state, given = {"n": 3}, {"up": 1}
        self.assertIsNone(lay_fault(COUNT, (cells, outputs), state, given))
        # The least name of a bit that differs: "next.0" is less than "now.0".
        swapped = tuple((name, cells.index(("one",))) for name, _ in outputs)
        self.assertEqual(lay_fault(COUNT, (cells, swapped), state, given), ("output", "next.0"))
        self.assertEqual(lay_fault(COUNT, (cells, swapped), {"n": 14}, given), ("output", "now.0"))
        stuck = tuple((*cell[:3], index) if cell[0] == "keep" else cell for index, cell in enumerate(cells))
        self.assertEqual(lay_fault(COUNT, (stuck, outputs), state, given), ("keeper", "n.0"))
        self.assertIsNone(lay_fault(COUNT, (stuck, outputs), state, {"up": 0}))
        self.assertEqual(lay_fault(COUNT, (stuck, swapped), state, given), ("output", "next.0"))
        high = tuple((*cell[:3], 0) if cell[:2] == ("keep", "n.3") else cell for cell in cells)
        self.assertEqual(lay_fault(COUNT, (high, outputs), state, given), ("keeper", "n.3"))

    def test_names_in_the_order_of_strings(self):
        sheet = ((("in", "x", 12),), (("o", 0),))
        cells = tuple(("in", f"x.{bit}") for bit in range(12)) + (("one",),)
        outputs = tuple((f"o.{bit}", 12 if bit in (2, 10) else bit) for bit in range(12))
        self.assertEqual(lay_fault(sheet, (cells, outputs), {}, {"x": 0}), ("output", "o.10"))

    def test_errors(self):
        net, state, given = lay(COUNT), {"n": 3}, {"up": 1}
        nets = odd_but() + [HALF[0], ((("not", 0),), ())]
        states = odd_but() + [{"n": 16}, {"n": True}, {"n.0": 1}, {"up": 1}]
        inputs = odd_but() + [{"up": 2}, {"up": False}, {"n": 1}]
        check_refused(self, lay_fault, (COUNT, net, state, given), [
            (0, InvalidSheet, SHEETS), (1, InvalidNet, nets), (2, InvalidState, states), (3, InvalidInputs, inputs)])

    def test_other_names(self):
        cells, outputs = lay(COUNT)
        state, given = {"n": 3}, {"up": 1}
        others = [
            (cells, outputs[1:]), (cells, outputs + (("more.0", 0),)), (cells, outputs[1:] + (("now.4", 0),)),
            (cells + (("in", "up.1"),), outputs), (cells + (("keep", "n.4", 0, 0),), outputs),
            (tuple(("one",) if cell == ("in", "up.0") else cell for cell in cells), outputs),
            (tuple(("one",) if cell[:2] == ("keep", "n.0") else cell for cell in cells), outputs),
            (tuple(("in", "up") if cell == ("in", "up.0") else cell for cell in cells), outputs), HALF, ((), ()),
        ]
        for net in others:
            self.assertTrue(is_net(net))
            expect(self, InvalidOperation, None, lay_fault, COUNT, net, state, given)
            expect(self, InvalidState, None, lay_fault, COUNT, net, {"n": 16}, given)
            expect(self, InvalidInputs, None, lay_fault, COUNT, net, state, {"up": 2})


class BitsTest(unittest.TestCase):
    def test_bits_and_words(self):
        widths, words = {"x": 3, "b": 1, "w": 32}, {"w": 2 ** 31 + 1, "x": 6, "b": 1}
        bits = bits_of(widths, words)
        self.assertEqual(len(bits), 36)
        self.assertEqual([bits[name] for name in ("x.0", "x.1", "x.2", "b.0", "w.0", "w.31", "w.5")],
                         [0, 1, 1, 1, 1, 1, 0])
        self.assertEqual(list(bits), sorted(bits))
        self.assertEqual(words_of(widths, bits), words)
        self.assertEqual(list(words_of(widths, bits)), ["b", "w", "x"])
        check_own_kinds(self, (bits, words_of(widths, bits)))
        self.assertEqual((bits_of({}, {}), words_of({}, {})), ({}, {}))
        for word in range(16):
            self.assertEqual(words_of({"a": 4}, bits_of({"a": 4}, {"a": word})), {"a": word})

    def test_errors(self):
        widths = [value for value in odd_but() if value not in ({}, {"x": 1})] + [
            {"x": True}, {"x": 0}, {"x": 33}, {"x": 1, "y.0": 1}, {"x" * 21: 1}, {"X": 1}, {"": 1}, {"x": None},
            {"x": "1"}, {"x": (1,)}]
        words = odd_but({"x": 1}) + [{"x": 4}, {"x": -1}, {"x": 1, "y": 1}, {"y": 1}, {"x.0": 1, "x.1": 0}, {"x": None}]
        check_refused(self, bits_of, ({"x": 2}, {"x": 3}), [(0, InvalidOperation, widths), (1, InvalidState, words)])
        bits = odd_but() + [{"x.0": 1}, {"x.0": 1, "x.1": 2}, {"x.0": 1, "x.1": True}, {"x.0": 1, "x.1": 1, "x.2": 1},
                            {"x.0": 1, "x.01": 1}, {"x.1": 1, "x.2": 0}, {"x": 3}, {"x.0": None, "x.1": 1}]
        check_refused(self, words_of, ({"x": 2}, {"x.0": 1, "x.1": 1}),
                      [(0, InvalidOperation, widths), (1, InvalidState, bits)])


if __name__ == "__main__":
    unittest.main()
