"""Long parts [6.1] to [6.5]."""

import itertools
import unittest

from support import check_judge, check_own_kinds, check_refused, expect, numbers_but, odd_but, random_source
from truebeat.errors import InvalidAsk, InvalidNumber, InvalidState
from truebeat.nets.net import inputs_of, is_net, keepers_of
from truebeat.nets.walk import first_state, joined, lane_of, run
from truebeat.parts import long as module
from truebeat.parts.long import IDLE, KINDS, is_long, long_beat, long_net, long_run
from truebeat.sheets.lay import bits_of, words_of

STOP = ("stop",)
ASKS = [value for value in odd_but() if value is not None] + [
    "stop", ("stop", 0), ("stop", None), ("begin",), ("begin", "times", 1), ("begin", "times", 1, 2, 3),
    ("begin", "time", 1, 2), ("begin", 0, 1, 2), ("begin", "none", 1, 2), ("begin", "times", 16, 2),
    ("begin", "times", 1, -1), ("begin", "times", True, 2), ("begin", "times", 1, None), ["stop"],
    ["begin", "times", 1, 2], ("begin", ["times"], 1, 2), ("Stop",), ("end", "times", 1, 2), (None,), (("stop",),)]
STATES = odd_but() + [
    ("none", False, 0, 0, 0, 0), ("none", 0, 0, 0, 0, 1), ("none", 0, 0, 4, 0, 0), ("part", 13, 3, 5, 0, 13),
    ("part", 13, 3, 4, 1, 13), ("part", 13, 3, 4, 0), ["part", 13, 3, 4, 0, 13], ("part", 13, 3, 4, False, 13),
    ("part", 13, 3, -1, 0, 13), ("part", 13, 3, True, 0, 13), ("parts", 13, 3, 4, 0, 13), (None, 0, 0, 0, 0, 0),
    ("times", 16, 3, 4, 0, 3), ("times", 13, 3, 3, 0, 6 + 16), ("part", 13, 3, 4, 0, 13, 0), list(IDLE), "none",
    ("times", 13, 3, 4, 0, 13), ("rest", 13, 3, 3, 0, 10)]


def right_result(width, kind, first, second):
    whole = {"times": first * second % (1 << width), "part": first // second if second else (1 << width) - 1,
             "rest": first % second if second else first}
    return whole[kind]


def plain_round(width, state):
    """A round, by the words of the document."""
    kind, first, second, left, one, two = state
    b = two >> width - 1
    if kind == "times":
        one, two = 2 * one + b * first, 2 * two
    else:
        t = 2 * one + b
        one, two = (t - second, 2 * two + 1) if t >= second else (t, 2 * two)
    return kind, first, second, left - 1, one % (1 << width), two % (1 << width)


def plain_beat(width, step, state, ask):
    if ask == STOP:
        return IDLE, None
    if ask is not None:
        _, kind, first, second = ask
        return (kind, first, second, width, 0, second if kind == "times" else first), None
    if state == IDLE:
        return IDLE, None
    if state[3] == 0:
        return IDLE, state[5] if state[0] == "part" else state[4]
    for _ in range(min(step, state[3])):
        state = plain_round(width, state)
    return state, None


def all_asks(width):
    words = range(1 << width)
    return [None, STOP] + [("begin", kind, a, b) for kind in KINDS for a, b in itertools.product(words, words)]


def some_asks(source, width, many):
    """A row of asks: now and then something is begun, stopped, begun anew, or left alone for long."""
    asks = []
    while len(asks) < many:
        words = [source.choice((0, 1, (1 << width) - 1, source.randrange(1 << width))) for _ in "xy"]
        begun = ("begin", source.choice(KINDS), *words)
        asks += source.choice(([begun], [STOP], [None] * source.randint(1, 2 * width)))
    return tuple(asks[:many])


class LongTest(unittest.TestCase):
    def test_the_example(self):
        self.assertEqual(
            [long_beat(4, 1, IDLE, ("begin", "part", 13, 3)), long_beat(4, 2, ("part", 13, 3, 4, 0, 13), None),
             long_beat(4, 2, ("part", 13, 3, 0, 1, 4), None)],
            [(("part", 13, 3, 4, 0, 13), None), (("part", 13, 3, 2, 0, 5), None), (("none", 0, 0, 0, 0, 0), 4)])

    def test_constants(self):
        self.assertEqual((module.MAX_LONG, module.MAX_STEP, module.MAX_ASKS), (16, 4, 400))
        self.assertEqual((KINDS, IDLE), (("times", "part", "rest"), ("none", 0, 0, 0, 0, 0)))

    def test_states_that_asks_lead_to(self):
        for width, step in itertools.product((1, 2), (1, 2, 3, 4)):
            reached, edge = {IDLE}, [IDLE]
            while edge:
                edge = [behind for behind in {plain_beat(width, step, state, ask)[0]
                                              for state in edge for ask in all_asks(width)} if behind not in reached]
                reached.update(edge)
            words = range(1 << width)
            every = [IDLE, ("none", 1, 0, 0, 0, 0)] + [
                (kind, a, b, left, one, two) for kind in KINDS for a, b, one, two in itertools.product(words, repeat=4)
                for left in range(-1, width + 2)]
            for state in every:
                self.assertIs(is_long(width, step, state), state in reached, (width, step, state))
            for state, ask in itertools.product(sorted(reached), all_asks(width)):
                self.assertEqual(long_beat(width, step, state, ask), plain_beat(width, step, state, ask))

    def test_states_of_three_and_four_bits(self):
        source = random_source(1)
        for width, step in itertools.product((3, 4), (1, 2, 3, 4)):
            for kind, a, b in itertools.product(KINDS, range(1 << width), range(1 << width)):
                state = plain_beat(width, step, IDLE, ("begin", kind, a, b))[0]
                while state != IDLE:
                    self.assertIs(is_long(width, step, state), True)
                    for at in (4, 5):
                        wrong = (*state[:at], state[at] ^ 1 << source.randrange(width), *state[at + 1:])
                        self.assertIs(is_long(width, step, wrong), False)
                    behind, result = long_beat(width, step, state, None)
                    self.assertEqual((behind, result), plain_beat(width, step, state, None))
                    self.assertEqual(result, right_result(width, kind, a, b) if behind == IDLE else None)
                    state = behind

    def test_rounds_not_done_in_beats(self):
        # With two rounds in a beat there is no state behind one round, but one behind the last.
        self.assertIs(is_long(4, 1, plain_round(4, ("part", 13, 3, 4, 0, 13))), True)
        self.assertIs(is_long(4, 2, plain_round(4, ("part", 13, 3, 4, 0, 13))), False)
        state = ("times", 2, 3, 3, 0, 3)
        self.assertIs(is_long(3, 2, plain_round(3, plain_round(3, plain_round(3, state)))), True)
        self.assertIs(is_long(3, 2, plain_round(3, plain_round(3, state))), True)
        self.assertIs(is_long(3, 4, plain_round(3, plain_round(3, plain_round(3, state)))), True)
        self.assertIs(is_long(3, 4, plain_round(3, state)), False)

    def test_great_widths(self):
        source = random_source(2)
        for width, step in itertools.product((1, 5, 8, 15, 16), (1, 2, 3, 4)):
            top = (1 << width) - 1
            for kind in KINDS:
                for a, b in [(top, top), (top, 0), (0, 0), (0, top), (top, 1), (1, top), (top, top // 2 + 1),
                             *[(source.randint(0, top), source.randint(0, top)) for _ in range(5)]]:
                    beats = -(-width // step)
                    told = long_run(width, step, (("begin", kind, a, b),) + (None,) * (beats + 2))
                    self.assertEqual(told, (None,) * (beats + 1) + (right_result(width, kind, a, b), None))

    def test_when_results_are_told(self):
        source = random_source(3)
        for width, step in itertools.product((1, 2, 3, 4, 7, 16), (1, 2, 3, 4)):
            q = -(-width // step)
            asks = some_asks(source, width, 400)
            told = long_run(width, step, asks)
            self.assertEqual(len(told), 400)
            for at, result in enumerate(told):
                ahead = at - q - 1
                begun = ahead >= 0 and asks[ahead] is not None and asks[ahead][0] == "begin"
                due = begun and all(ask is None for ask in asks[ahead + 1:at + 1])
                self.assertEqual(result is not None, due)
                if due:
                    self.assertEqual(result, right_result(width, *asks[ahead][1:]))
            check_own_kinds(self, told)

    def test_all_short_rows_of_asks(self):
        asks = [None, STOP, ("begin", "times", 1, 1), ("begin", "rest", 1, 0)]
        for step, row in itertools.product((1, 2), itertools.product(asks, repeat=5)):
            told = long_run(1, step, row)
            for at, result in enumerate(told):
                due = at >= 2 and row[at - 1] is None and row[at] is None and (row[at - 2] or STOP)[0] == "begin"
                self.assertEqual(result, 1 if due else None)

    def test_runs_are_beats(self):
        source = random_source(4)
        asks = some_asks(source, 5, 60)
        state, told = IDLE, []
        for ask in asks:
            state, result = long_beat(5, 2, state, ask)
            self.assertIs(is_long(5, 2, state), True)
            check_own_kinds(self, state)
            told.append(result)
        self.assertEqual(long_run(5, 2, asks), tuple(told))
        self.assertEqual(long_run(5, 2, ()), ())

    def test_judge(self):
        check_judge(self, is_long, (4, 2), [IDLE, ("part", 13, 3, 4, 0, 13), ("part", 13, 3, 2, 0, 5),
                                            ("part", 13, 3, 0, 1, 4), ("rest", 9, 0, 0, 9, 15)],
                    STATES[len(odd_but()):])

    def test_what_is_not_true(self):
        rows = [long_run(4, step, (("begin", "times", 3, 3),) + (None,) * 9) for step in (2, 3)]
        self.assertEqual(rows[0], rows[1])
        self.assertEqual(long_run(4, 1, (("begin", "part", 1, 9),) + (None,) * 5)[-1], 0)
        self.assertEqual(long_run(4, 1, (("begin", "part", 1, 9),) + (None,) * 4)[-1], None)

    def test_errors(self):
        ahead = [(0, InvalidNumber, numbers_but(1, 16)), (1, InvalidNumber, numbers_but(1, 4))]
        good = (4, 2, ("part", 13, 3, 2, 0, 5), ("begin", "rest", 15, 0))
        check_refused(self, long_beat, good, [*ahead, (2, InvalidState, STATES), (3, InvalidAsk, ASKS)])
        check_refused(self, long_beat, (*good[:3], None), [*ahead, (2, InvalidState, STATES), (3, InvalidAsk, ASKS)])
        rows = [value for value in odd_but() if value not in ((), (None,))] + [
            [None], (None, ("stop", 0)), (None,) * 401, STOP, (None, True), (["stop"],)]
        check_refused(self, long_run, (4, 2, (None, STOP) * 200), [*ahead, (2, InvalidAsk, rows)])
        check_refused(self, long_net, (4, 2), ahead)
        for where, kind, values in ahead:
            for value in values:
                expect(self, kind, value, is_long, *[value if at == where else 1 for at in (0, 1)], None)


def given_for(source, width, ask):
    """Inputs of the net for an ask; what does not count is anything."""
    words = {"begin": 0, "stop": 0, "kind": source.randrange(4), "x": source.randrange(1 << width),
             "y": source.randrange(1 << width)}
    if ask is not None and ask[0] == "stop":
        words["stop"] = 1
    elif ask is not None:
        kind = source.choice((2, 3)) if ask[1] == "rest" else KINDS.index(ask[1])
        words = {"begin": 1, "stop": source.randrange(2), "kind": kind, "x": ask[2], "y": ask[3]}
    return words


class LongNetTest(unittest.TestCase):
    def told_by(self, net, width, state, rows):
        widths = {"begin": 1, "stop": 1, "kind": 2, "x": width, "y": width}
        told, _ = run(net, 1, state, tuple(bits_of(widths, row) for row in rows))
        return [words_of({"done": 1, "busy": 1, "result": width}, row) for row in told]

    def right(self, width, step, asks):
        state, told = IDLE, []
        for ask in asks:
            behind, result = plain_beat(width, step, state, ask)
            told.append({"done": int(result is not None), "busy": int(state != IDLE), "result": result or 0})
            state = behind
        return told

    def check_names(self, net, width):
        self.assertIs(is_net(net), True)
        names = ["begin.0", "stop.0", "kind.0", "kind.1"] + [f"{word}.{bit}" for word in "xy" for bit in range(width)]
        self.assertEqual(sorted(inputs_of(net)), sorted(names))
        self.assertEqual(sorted(name for name, _ in net[1]),
                         sorted(["busy.0", "done.0"] + [f"result.{bit}" for bit in range(width)]))

    def test_from_the_first_state_on(self):
        source = random_source(5)
        for width, step in itertools.product((1, 2, 3, 4, 5, 7, 8, 11, 15, 16), (1, 2, 3, 4)):
            net = long_net(width, step)
            self.check_names(net, width)
            first = {name: 0 for name, bit in ((cell[1], cell[2]) for cell in net[0] if cell[0] == "keep")
                     if bit is None}
            asks = some_asks(source, width, 150)
            rows = [given_for(source, width, ask) for ask in asks]
            told = self.told_by(net, width, first_state(net, 1, first), rows)
            self.assertEqual(told, self.right(width, step, asks))

    def test_from_any_waking_on(self):
        source = random_source(6)
        for width, step in itertools.product((1, 2, 3, 8, 16), (1, 2, 3, 4)):
            net = long_net(width, step)
            for turn in range(8):
                wake = {name: source.choice((0, 1, 1)) for name in keepers_of(net)}
                waits = [None] * source.randrange(6)
                begun = [source.choice((STOP, ("begin", source.choice(KINDS), 1, source.randrange(2))))]
                asks = begun + list(some_asks(source, width, 40))
                rows = [given_for(source, width, ask) for ask in waits + asks]
                told = self.told_by(net, width, wake, rows)
                self.assertEqual(told[len(waits) + 1:], self.right(width, step, asks)[1:])

    def test_all_short_rows_of_inputs(self):
        net = long_net(1, 1)
        names = inputs_of(net)
        letters = [dict(zip(names, bits)) for bits in itertools.product((0, 1), repeat=len(names))]
        source = random_source(7)
        for _ in range(60):
            lanes = [[source.choice(letters) for _ in range(6)] for _ in range(64)]
            rows = tuple(joined(tuple(lane[at] for lane in lanes)) for at in range(6))
            told, _ = run(net, 64, first_state(net, 64, {name: 0 for name in ()}), rows)
            for number, lane in enumerate(lanes):
                asks = []
                for bits in lane:
                    kind = ("times", "part", "rest", "rest")[bits["kind.0"] + 2 * bits["kind.1"]]
                    begun = ("begin", kind, bits["x.0"], bits["y.0"])
                    asks.append(begun if bits["begin.0"] else STOP if bits["stop.0"] else None)
                rights = [{f"{name}.0": word for name, word in row.items()} for row in self.right(1, 1, asks)]
                self.assertEqual([lane_of(row, number) for row in told], rights)


if __name__ == "__main__":
    unittest.main()
