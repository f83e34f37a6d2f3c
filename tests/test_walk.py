"""Walks of nets [2.5], [2.6], [2.7]."""

import unittest

from support import check_own_kinds, check_refused, expect, numbers_but, odd_but, random_source
from test_net import HALF, TURNING, looks, some_lot
from truebeat.errors import InvalidInputs, InvalidNet, InvalidNumber, InvalidState
from truebeat.nets import walk
from truebeat.nets.net import inputs_of, keepers_of
from truebeat.nets.walk import beat, first_state, joined, lane_of, run, worked

NETS = odd_but() + [HALF[0], ((("not", 0),), ())]
LANES = numbers_but(1, 64)
STATES = odd_but() + [{"k": 4}, {"k": -1}, {"k": True}, {"k": None}, {"k": 0, "l": 0}, {"l": 0}, (("k", 0),)]
INPUTS = odd_but() + [{"up": 4}, {"up": -1}, {"up": False}, {"up": "1"}, {"up": 1, "k": 0}, {"down": 1}]


def plain_bits(net, state, given):
    """The bits of all cells in one lane, by the words of the document."""
    bits = []
    for cell in net[0]:
        seen = [bits[at] for at in looks(cell)]
        if cell[0] in ("in", "keep"):
            bits.append({**state, **given}[cell[1]])
        elif cell[0] == "one":
            bits.append(1)
        elif cell[0] == "not":
            bits.append(int(seen == [0]))
        elif cell[0] == "and":
            bits.append(int(seen == [1, 1]))
        elif cell[0] == "or":
            bits.append(int(1 in seen))
        elif cell[0] == "xor":
            bits.append(int(seen[0] != seen[1]))
        else:
            bits.append(seen[1] if seen[0] == 1 else seen[2])
    return bits


class WalkTest(unittest.TestCase):
    def test_constants(self):
        self.assertEqual((walk.MAX_LANES, walk.MAX_BEATS), (64, 400))

    def test_first_state(self):
        cells = (("keep", "z", 1, 0), ("keep", "b", None, 0), ("keep", "a", 0, 0), ("keep", "c", None, 0))
        net = (cells, ())
        state = first_state(net, 3, {"c": 5, "b": 2})
        self.assertEqual(state, {"a": 0, "b": 2, "c": 5, "z": 7})
        check_own_kinds(self, state)
        self.assertEqual(first_state(net, 64, {"c": 2 ** 64 - 1, "b": 0})["z"], 2 ** 64 - 1)
        self.assertEqual(first_state(((), ()), 1, {}), {})
        wakes = odd_but() + [{"b": 1}, {"b": 1, "c": 1, "a": 1}, {"b": 8, "c": 0}, {"b": True, "c": 0},
                             {"b": 1, "z": 1}, {"b": -1, "c": 0}]
        check_refused(self, first_state, (net, 3, {"c": 5, "b": 2}),
                      [(0, InvalidNet, NETS), (1, InvalidNumber, LANES), (2, InvalidState, wakes)])

    def test_cells_by_truth_tables(self):
        cells = (("in", "a"), ("in", "b"), ("in", "c"), ("one",), ("not", 0), ("and", 0, 1), ("or", 0, 1),
                 ("xor", 0, 1), ("pick", 0, 1, 2), ("keep", "k", 0, 8))
        given = {"a": 0b11110000, "b": 0b11001100, "c": 0b10101010}
        self.assertEqual(
            worked((cells, ()), 8, {"k": 77}, given),
            (0b11110000, 0b11001100, 0b10101010, 255, 0b00001111, 0b11000000, 0b11111100, 0b00111100, 0b11001010, 77))

    def test_lanes_are_plain_runs(self):
        source = random_source(2)
        for lanes in (1, 2, 7, 64):
            for _ in range(12):
                cells = some_lot(source, 15, False)
                net = (cells, tuple((f"o{index}", index) for index in range(0, 15, 2)))
                state = {name: source.randrange(1 << lanes) for name in keepers_of(net)}
                rows = tuple({name: source.randrange(1 << lanes) for name in inputs_of(net)} for _ in range(4))
                told, last = run(net, lanes, state, rows)
                for lane in range(lanes):
                    at = lane_of(state, lane)
                    for given, outputs in zip(rows, told):
                        bits = plain_bits(net, at, lane_of(given, lane))
                        self.assertEqual(lane_of(outputs, lane), {name: bits[index] for name, index in net[1]})
                        at = {cell[1]: bits[cell[3]] for cell in cells if cell[0] == "keep"}
                    self.assertEqual(lane_of(last, lane), at)
                    alone = run(net, 1, lane_of(state, lane), tuple(lane_of(given, lane) for given in rows))
                    self.assertEqual(alone[1], at)

    def test_beats_and_runs(self):
        self.assertEqual(beat(TURNING, 2, {"k": 1}, {"up": 3}), ({"now": 1}, {"k": 2}))
        self.assertEqual(beat(HALF, 1, {}, {"x": 1, "y": 1}), ({"carry": 1, "sum": 0}, {}))
        rows = tuple({"up": n % 4} for n in range(9))
        told, last = run(TURNING, 2, {"k": 1}, rows)
        first, middle = run(TURNING, 2, {"k": 1}, rows[:4])
        then, end = run(TURNING, 2, middle, rows[4:])
        self.assertEqual((first + then, end), (told, last))
        check_own_kinds(self, (told, last))
        state = {"k": 1}
        nothing = run(TURNING, 2, state, ())
        self.assertEqual(nothing, ((), {"k": 1}))
        self.assertIsNot(nothing[1], state)

    def test_dicts_are_ascending_and_own(self):
        cells = (("keep", "z", 0, 1), ("keep", "a", 0, 0), ("in", "x"))
        net = (cells, (("p", 0), ("b", 2), ("c", 1)))
        state, given = {"z": 1, "a": 0}, {"x": 1}
        told, behind = beat(net, 1, state, given)
        self.assertEqual((list(told), list(behind)), (["b", "c", "p"], ["a", "z"]))
        (one, other), last = run(net, 1, state, (given, given))
        self.assertIsNot(one, other)
        last["z"] = 7
        self.assertEqual(state, {"z": 1, "a": 0})

    def test_most_rows(self):
        rows = ({"up": 1},) * 400
        told, last = run(TURNING, 1, {"k": 0}, rows)
        self.assertEqual((len(told), last), (400, {"k": 0}))
        expect(self, InvalidInputs, None, run, TURNING, 1, {"k": 0}, rows + ({"up": 1},))

    def test_errors(self):
        good = (TURNING, 2, {"k": 3}, {"up": 1})
        ahead = [(0, InvalidNet, NETS), (1, InvalidNumber, LANES), (2, InvalidState, STATES)]
        for function in (worked, beat):
            check_refused(self, function, good, [*ahead, (3, InvalidInputs, INPUTS)])
        rows = [value for value in odd_but() if value != ()] + [({"up": 1}, {"up": 4}), [{"up": 1}], {"up": 1},
                                                               ({"up": 1}, None), ({},), ({"up": True},)]
        check_refused(self, run, (*good[:3], ({"up": 1},)), [*ahead, (3, InvalidInputs, rows)])
        expect(self, InvalidNumber, 65, beat, HALF, 65, {"k": 1}, {})
        expect(self, InvalidState, None, beat, HALF, 64, {"k": 1}, {})

    def test_rings_have_no_bits_but_perhaps_some(self):
        # Two cells "not" that look at one another agree with two unlike bits.
        self.assertEqual([(a, b) for a in (0, 1) for b in (0, 1) if a == 1 - b and b == 1 - a], [(0, 1), (1, 0)])


class LanesTest(unittest.TestCase):
    def test_lane_of(self):
        values = {"b": 2 ** 63, "a": 5}
        self.assertEqual(lane_of(values, 63), {"a": 0, "b": 1})
        self.assertEqual(lane_of(values, 0), {"a": 1, "b": 0})
        self.assertEqual(lane_of({}, 0), {})
        check_own_kinds(self, lane_of(values, 2))
        wrong = [value for value in odd_but() if value not in ({}, {"x": 1})] + [
            {"x": True}, {"a": 2 ** 64}, {"a": -1}, {"a": None}, {"A": 1}, {"": 1}, {1: 1}, {"a" * 25: 1}, {"a": "1"}]
        check_refused(self, lane_of, (values, 1), [(0, InvalidState, wrong), (1, InvalidNumber, numbers_but(0, 63))])

    def test_joined(self):
        rows = ({"b": 1, "a": 0}, {"a": 1, "b": 0}, {"a": 1, "b": 1})
        self.assertEqual(joined(rows), {"a": 6, "b": 5})
        check_own_kinds(self, joined(rows))
        self.assertEqual(joined(({},)), {})
        many = tuple({"a": n % 3 % 2, "b": n % 2} for n in range(64))
        self.assertEqual(tuple(lane_of(joined(many), n) for n in range(64)), many)
        wrong = odd_but() + [(), many + many[:1], list(rows), ({"a": 1}, {"b": 1}), ({"a": 1}, {}), ({"a": 2},),
                             ({"a": True},), ({"A": 1},), ({1: 1},), ({"a": 1}, None), ({"a": 1}, {"a": 1, "b": 0})]
        check_refused(self, joined, (rows,), [(0, InvalidInputs, wrong)])


if __name__ == "__main__":
    unittest.main()
