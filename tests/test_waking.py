"""Keepers that wake as anything [10.1] to [10.5], [10.7]."""

import itertools
import unittest

from nets_made import fillings, gate, names_of, plain_beat, some_clocked
from support import check_judge, check_own_kinds, check_refused, expect, odd_but, random_source
from truebeat.errors import InvalidInputs, InvalidNet, InvalidState, TooMany, UnknownName
from truebeat.judge import waking as module
from truebeat.judge.waking import (
    are_unlike_wakings, is_settled_paper, known, settled, three_beat, three_run, unlike_wakings)
from truebeat.nets.walk import beat

# k is set to 0 by x, l takes k over, m keeps what it has.
NET = ((("in", "x"), ("keep", "k", 1, 4), ("keep", "l", None, 1), ("not", 0), ("and", 1, 3), ("keep", "m", 0, 5)),
       (("p", 2), ("o", 4)))
NETS = odd_but() + [NET[0], (NET[0] * 2, ()), ((("not", 0),), ())]
THREE = (0, 1, None)


def three_gate(word, values):
    """What is known of a gate by the words of [10.1]: of xor and not all bits, of the others what is told there."""
    if word == "pick":
        if values[0] is None:
            return values[1] if values[1] is not None and values[1] == values[2] else None
        return values[1] if values[0] == 1 else values[2]
    if word == "and" and 0 in values:
        return 0
    if word == "or" and 1 in values:
        return 1
    return None if None in values else gate(word, values)


def completed(table):
    """All dicts that have bits for each None."""
    loose = [name for name in table if table[name] is None]
    return [{**table, **filling} for filling in fillings(loose)]


def all_runs(net, rows):
    """All runs with bits for each None: the waking, the rows, and the state behind."""
    for wake in fillings(sorted(names_of(net, "keep"))):
        for told in itertools.product(*[completed(row) for row in rows]):
            state = wake
            for given in told:
                _, state = plain_beat(net, state, given)
            yield wake, told, state


def some_rows(source, net, most, loose):
    """Rows of known inputs with at most so many None."""
    rows = []
    for _ in range(source.randrange(most)):
        row = {}
        for name in names_of(net, "in"):
            row[name] = source.choice(THREE if loose > 0 else (0, 1))
            loose -= row[name] is None
        rows.append(row)
    return tuple(rows)


class ThreeValuesTest(unittest.TestCase):
    def test_constant(self):
        self.assertEqual(module.MAX_LETTERS, 14)

    def test_each_kind_of_cell(self):
        names = ("a", "b", "c")
        ahead = tuple(("in", name) for name in names)
        for word, many in (("one", 0), ("not", 1), ("and", 2), ("or", 2), ("xor", 2), ("pick", 3)):
            for looks in itertools.product(range(3), repeat=many):
                net = (ahead + ((word, *looks), ("keep", "k", 0, 3)), (("o", 3), ("k", 4)))
                for values in itertools.product(THREE, repeat=3):
                    for kept in THREE:
                        told = three_beat(net, {"k": kept}, dict(zip(names, values)))
                        right = three_gate(word, [values[at] for at in looks])
                        self.assertEqual(told, ({"k": kept, "o": right}, {"k": right}))
                        check_own_kinds(self, told)
                        self.assertEqual(list(told[0]), ["k", "o"])

    def test_never_too_much(self):
        source = random_source(1)
        too_little = 0
        for _ in range(40):
            net = some_clocked(source, ("x", "y"), ("k", "l", "m"), 8, ("o", "p"), (0, 1, None))
            state = {name: source.choice(THREE) for name in ("m", "k", "l")}
            inputs = {name: source.choice(THREE) for name in ("y", "x")}
            told = three_beat(net, state, inputs)
            rights = [plain_beat(net, full, given) for full in completed(state) for given in completed(inputs)]
            for part in (0, 1):
                for name, bit in told[part].items():
                    bits = {right[part][name] for right in rights}
                    self.assertTrue(bit is None or bits == {bit})
                    too_little += bit is None and len(bits) == 1
            # With more known what was told stays told.
            for full in completed(state):
                again = three_beat(net, full, inputs)
                for part in (0, 1):
                    self.assertTrue(all(bit is None or again[part][name] == bit for name, bit in told[part].items()))
        self.assertGreater(too_little, 0)

    def test_runs(self):
        source = random_source(2)
        for _ in range(30):
            net = some_clocked(source, ("x", "y"), ("k", "l", "m"), 8, ("o", "p"), (0, 1, None))
            rows = some_rows(source, net, 6, 6)
            state, told = {"k": None, "l": None, "m": None}, []
            for row in rows:
                outputs, state = three_beat(net, state, row)
                told.append(outputs)
            self.assertEqual(three_run(net, rows), (tuple(told), state))
            check_own_kinds(self, three_run(net, rows))
        self.assertEqual(three_run(NET, ()), ((), {"k": None, "l": None, "m": None}))
        self.assertEqual(three_run(NET, ({"x": 1}, {"x": 0}))[1], {"k": 0, "l": 0, "m": None})

    def test_xor_of_one_cell(self):
        net = ((("keep", "k", None, 1), ("xor", 0, 0)), (("o", 1),))
        self.assertEqual(three_beat(net, {"k": None}, {}), ({"o": None}, {"k": None}))
        self.assertEqual(known(net, ({},)), {"k": 0})
        self.assertEqual(beat(net, 2, {"k": 1}, {}), ({"o": 0}, {"k": 0}))

    def test_errors(self):
        states = odd_but() + [{"k": 0, "l": 1}, {"k": 0, "l": 1, "m": 0, "n": 0}, {"k": 0, "l": 1, "m": 2},
                              {"k": 0, "l": 1, "m": True}, {"k": 0, "l": 1, "n": None}, {"k": 0, "l": 1, "m": "0"}]
        inputs = [value for value in odd_but() if value != {"x": 1}] + [{"x": 2}, {"x": 0, "y": 0}, {"y": None}]
        inputs.append({"x": False})
        good = (NET, {"k": 0, "l": None, "m": 1}, {"x": None})
        check_refused(self, three_beat, good, [(0, InvalidNet, NETS), (1, InvalidState, states),
                                               (2, InvalidInputs, inputs)])
        rows = [value for value in odd_but() if value != ()] + [({"x": 2},), ({"x": 0}, {}), [{"x": 0}], {"x": 0}]
        rows.append(({"x": 0},) * 401)
        for function in (three_run, known):
            check_refused(self, function, (NET, ({"x": 0},) * 400), [(0, InvalidNet, NETS), (1, InvalidInputs, rows)])
        names = [value for value in odd_but()] + ["o", "x", "n", "K", ("k",)]
        check_refused(self, unlike_wakings, (NET, ({"x": 0},), "l"), [
            (0, InvalidNet, NETS), (1, InvalidInputs, rows), (2, UnknownName, names)])
        check_refused(self, are_unlike_wakings, (NET, ({"x": 0},), "l", None), [
            (0, InvalidNet, NETS), (1, InvalidInputs, rows), (2, UnknownName, names)])
        without = [value for value in inputs] + [{"x": None}]
        check_refused(self, settled, (NET, {"x": 0}), [(0, InvalidNet, NETS), (1, InvalidInputs, without)])
        check_refused(self, is_settled_paper, (NET, {"x": 0}, None), [(0, InvalidNet, NETS), (1, InvalidInputs, without)])


class KnownTest(unittest.TestCase):
    def test_against_all_runs(self):
        source = random_source(3)
        found = {True: 0, False: 0}
        for _ in range(60):
            net = some_clocked(source, ("x", "y")[:source.randrange(3)], ("k", "l", "m")[:source.randrange(4)], 8, ("o",),
                               (0, 1, None))
            rows = some_rows(source, net, 5, 4)
            runs = list(all_runs(net, rows))
            told = known(net, rows)
            check_own_kinds(self, told)
            for name in names_of(net, "keep"):
                bits = {state[name] for _, _, state in runs}
                found[len(bits) == 1] += 1
                self.assertEqual(told.get(name), bits.pop() if len(bits) == 1 else None)
                pair = unlike_wakings(net, rows, name)
                self.assertEqual(pair is None, name in told)
                self.assertIs(are_unlike_wakings(net, rows, name, pair), pair is not None)
                if pair is not None:
                    check_own_kinds(self, pair)
                    self.check_pairs(net, rows, name, pair, runs)
            for name, bit in three_run(net, rows)[1].items():
                self.assertTrue(bit is None or told[name] == bit)
        self.assertGreater(min(found.values()), 20)

    def check_pairs(self, net, rows, name, pair, runs):
        right = [(wake, told, state[name]) for wake, told, state in runs]
        ends = [[bit for wake, told, bit in right if (wake, told) == one] for one in pair]
        self.assertEqual(sorted(ends), [[0], [1]])
        for one, other in itertools.product(right[:6], right[-6:]):
            self.assertIs(are_unlike_wakings(net, rows, name, (one[:2], other[:2])), one[2] != other[2])

    def test_judge(self):
        rows = ({"x": None}, {"x": 0})
        wake = {"k": 1, "l": 0, "m": 0}
        good = ((wake, ({"x": 0}, {"x": 0})), (wake, ({"x": 1}, {"x": 0})))
        again = (good[1], ({"k": 1, "l": 1, "m": 1}, ({"x": 0}, {"x": 0})))
        wrongs = [(good[0], good[0]), good[:1], (*good, good[0]), list(good), (list(good[0]), good[1]),
                  (good[0], (wake, ({"x": 1}, {"x": 1}))), (good[0], (wake, ({"x": 1},))),
                  (good[0], (wake, [{"x": 1}, {"x": 0}])), (good[0], (wake, ({"x": True}, {"x": 0}))),
                  (good[0], (wake, ({"x": None}, {"x": 0}))), (good[0], (wake, ({"x": 1, "y": 0}, {"x": 0}))),
                  (good[0], ({"k": 1, "l": 0}, ({"x": 1}, {"x": 0}))), (good[0], ({**wake, "k": None}, good[1][1])),
                  (good[0], ({**wake, "n": 0}, good[1][1])), (good[0], None), ((), ())]
        check_judge(self, are_unlike_wakings, (NET, rows, "k"), [good, good[::-1], again], wrongs)
        check_judge(self, are_unlike_wakings, (NET, ({"x": 1},), "k"), [], [good, None])

    def test_fourteen_and_fifteen_letters(self):
        def shift(many):
            return ((("in", "x"),) + tuple(("keep", f"k{at:02}", None, at) for at in range(many)), (("o", many),))

        self.assertEqual(known(shift(14), ()), {})
        self.assertEqual(known(shift(14), ({"x": 1},)), {"k00": 1})
        self.assertEqual(known(shift(10), ({"x": None},) * 4 + ({"x": 0},)), {"k00": 0})
        self.assertEqual(known(shift(3), ({"x": None},) * 8 + ({"x": 0}, {"x": 1}, {"x": 1})),
                         {"k00": 1, "k01": 1, "k02": 0})
        self.assertIsNotNone(unlike_wakings(shift(10), ({"x": None},) * 4, "k09"))
        for net, rows in ((shift(15), ()), (shift(10), ({"x": None},) * 5), (shift(15), ({"x": None},) * 9)):
            expect(self, TooMany, 14, known, net, rows)
            expect(self, TooMany, 14, unlike_wakings, net, rows, "k00")
            expect(self, UnknownName, "k99", unlike_wakings, net, rows, "k99")
            self.assertIs(are_unlike_wakings(net, rows, "k00", None), False)
        many = shift(15)
        state = {f"k{at:02}": 0 for at in range(15)}
        pair = ((state, ({"x": 0},)), (state, ({"x": 1},)))
        self.assertIs(are_unlike_wakings(many, ({"x": None},), "k00", pair), True)
        self.assertIs(are_unlike_wakings(many, ({"x": None},), "k01", pair), False)

    def test_what_is_not_true(self):
        # Known behind one row and not behind one more: only x tells k, and only where it comes.
        net = ((("in", "x"), ("in", "y"), ("keep", "k", None, 4), ("keep", "m", None, 3), ("pick", 1, 0, 3)), ())
        self.assertEqual(known(net, ({"x": 1, "y": 1},)), {"k": 1})
        self.assertEqual(known(net, ({"x": 1, "y": 1}, {"x": 1, "y": 0})), {})
        apart = ((("keep", "a", None, 0), ("one",), ("keep", "b", None, 1)), ())
        self.assertEqual(settled(apart, {})[0], "apart")
        self.assertEqual(known(apart, ({},)), {"b": 1})


class SettledTest(unittest.TestCase):
    def by_trial(self, net, inputs):
        """The states that come back to themselves, and behind how many beats all are in them."""
        names = sorted(names_of(net, "keep"))
        behind = {tuple(wake.values()): tuple(plain_beat(net, wake, inputs)[1][name] for name in names)
                  for wake in fillings(names)}
        there, beats = set(behind), 0
        while {behind[state] for state in there} != there:
            there = {behind[state] for state in there}
            beats += 1
        return names, there, beats

    def test_against_trials(self):
        source = random_source(4)
        found = {True: 0, False: 0}
        for _ in range(150):
            net = some_clocked(source, ("x",)[:source.randrange(2)], ("l", "k", "m")[:source.randrange(4)], 8, ("o",),
                               (0, 1, None))
            inputs = {name: source.randrange(2) for name in names_of(net, "in")}
            names, rings, beats = self.by_trial(net, inputs)
            paper = settled(net, inputs)
            check_own_kinds(self, paper)
            self.assertIs(is_settled_paper(net, inputs, paper), True)
            found[len(rings) == 1] += 1
            if len(rings) == 1:
                self.assertEqual(paper, ("settled", beats, dict(zip(names, min(rings)))))
                self.assertLessEqual(beats, (1 << len(names)) - 1)
            for one, other in itertools.product(fillings(names), repeat=2):
                right = tuple(one.values()) in rings and tuple(other.values()) in rings and one != other
                self.assertIs(is_settled_paper(net, inputs, ("apart", one, other)), right)
            for one, told in itertools.product(fillings(names), range(-1, 9)):
                right = len(rings) == 1 and tuple(one.values()) in rings and told == beats
                self.assertIs(is_settled_paper(net, inputs, ("settled", told, one)), right)
        self.assertGreater(min(found.values()), 30)

    def test_least_and_greatest_numbers_of_beats(self):
        self.assertEqual(settled(((("one",),), ()), {}), ("settled", 0, {}))
        for many in (1, 2, 3, 8, 14):
            # A counter that stays where all its bits are 1.
            cells = [("one",)] + [("keep", f"k{at:02}", None, 0) for at in range(many)]
            carry = 0
            for at in range(1, many + 1):
                cells += [("xor", at, carry), ("and", at, carry)]
                carry = len(cells) - 1
            full = carry
            for at in range(1, many + 1):
                cells.append(("or", full, many + 2 * at - 1))
                cells[at] = (*cells[at][:3], len(cells) - 1)
            top = {f"k{at:02}": 1 for at in range(many)}
            paper = settled((tuple(cells), ()), {})
            self.assertEqual(paper, ("settled", (1 << many) - 1, top))
            self.assertIs(is_settled_paper((tuple(cells), ()), {}, paper), True)
            self.assertIs(is_settled_paper((tuple(cells), ()), {}, ("settled", (1 << many) - 2, top)), False)

    def test_rings(self):
        turn = ((("keep", "k", 0, 1), ("not", 0)), ())
        self.assertIn(settled(turn, {}), [("apart", {"k": 0}, {"k": 1}), ("apart", {"k": 1}, {"k": 0})])
        both = ((("keep", "k", 0, 0),), ())
        check_judge(self, is_settled_paper, (both, {}), [("apart", {"k": 0}, {"k": 1}), ("apart", {"k": 1}, {"k": 0})],
                    [("apart", {"k": 0}, {"k": 0}), ("apart", {"k": 0}), ["apart", {"k": 0}, {"k": 1}],
                     ("apart", {"k": False}, {"k": 1}), ("apart", {"k": None}, {"k": 1}), ("apart", {}, {"k": 1}),
                     ("apart", {"k": 0}, {"k": 1, "l": 0}), ("settled", 0, {"k": 0}), ("apart", None, {"k": 1}),
                     (None, {"k": 0}, {"k": 1})])
        self.assertEqual(settled(NET, {"x": 1})[0], "apart")
        one = ((("keep", "k", 0, 1), ("one",)), ())
        check_judge(self, is_settled_paper, (one, {}), [("settled", 1, {"k": 1})],
                    [("settled", True, {"k": 1}), ("settled", 1, {"k": 0}), ("settled", 1, {"k": True}),
                     ("settled", 2, {"k": 1}), ("settled", 0, {"k": 1}), ("settled", 1), ("settled", 1, {}),
                     ("settled", 1, {"k": 1}, 0), ["settled", 1, {"k": 1}]])

    def test_fifteen_keepers(self):
        def idle(many):
            return (("one",),) + tuple(("keep", f"k{at}", None, 0) for at in range(many)), ()

        self.assertEqual(settled(idle(14), {}), ("settled", 1, {name: 1 for name in sorted(f"k{at}" for at in range(14))}))
        expect(self, TooMany, 14, settled, idle(15), {})
        expect(self, TooMany, 14, is_settled_paper, idle(15), {}, None)
        expect(self, InvalidInputs, None, settled, idle(15), {"x": 0})


if __name__ == "__main__":
    unittest.main()
