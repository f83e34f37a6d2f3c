"""Nets alike for all rows of inputs [9.1] to [9.6]."""

import itertools
import unittest

from nets_made import fillings, names_of, plain_beat, some_clocked
from support import check_judge, check_own_kinds, check_refused, expect, odd_but, random_source
from truebeat.errors import InvalidInputs, InvalidNet, InvalidOperation, InvalidState, TooMany
from truebeat.judge import clocked as module
from truebeat.judge.clocked import (
    classes, clocked, done_by, is_clocked_paper, is_parting_row, machine_of, parting_row, reached)

COUNT = ((("keep", "b", 0, 3), ("keep", "a", 0, 4), ("in", "up"), ("xor", 0, 2), ("pick", 2, 5, 1), ("xor", 0, 1)),
         (("o", 1),))
NET = ((("keep", "b", 0, 3), ("keep", "a", 0, 5), ("in", "up"), ("xor", 0, 2), ("and", 0, 2), ("xor", 4, 1)),
       (("o", 1),))
LOOSE = ((("keep", "b", None, 0),), (("o", 0),))
NETS = odd_but() + [NET[0], COUNT, (LOOSE[0] * 2, ())]


def plain_machine(net):
    """By state and input the output and the state behind, all tuples of bits; and the first state."""
    keepers, inputs = sorted(names_of(net, "keep")), sorted(names_of(net, "in"))
    outs = sorted(name for name, _ in net[1])
    moves = {}
    for state, given in itertools.product(fillings(keepers), fillings(inputs)):
        told, behind = plain_beat(net, state, given)
        key = (tuple(state.values()), tuple(given.values()))
        moves[key] = (tuple(told[name] for name in outs), tuple(behind[name] for name in keepers))
    firsts = {cell[1]: cell[2] for cell in net[0] if cell[0] == "keep"}
    return moves, tuple(firsts[name] for name in keepers)


def rows_of(net, most):
    """All rows of at most so many inputs, the shorter ones first, ascending."""
    letters = [tuple(filling.values()) for filling in fillings(sorted(names_of(net, "in")))]
    for many in range(most + 1):
        yield from itertools.product(letters, repeat=many)


def plain_run(moves, state, row):
    told = []
    for given in row:
        output, state = moves[state, given]
        told.append(output)
    return tuple(told), state


def shift(many, first=0):
    """So many keepers behind one another, the first one fed by an input; the last one is put out."""
    cells = [("in", "x")] + [("keep", f"k{at:02}", first, at) for at in range(many)]
    return tuple(cells), (("o", many),)


def counter(many):
    """A counter without inputs, whose output tells the greatest number."""
    cells = [("one",)] + [("keep", f"k{many - at:02}", 0, 0) for at in range(many)]
    carry = 0
    for at in range(1, many + 1):
        cells += [("xor", at, carry), ("and", at, carry)]
        cells[at] = (*cells[at][:3], len(cells) - 2)
        carry = len(cells) - 1
    return tuple(cells), (("top", carry),)


class RunsTest(unittest.TestCase):
    def test_constants(self):
        self.assertEqual((module.MAX_INPUTS, module.MAX_LETTERS), (6, 16))

    def test_done_by(self):
        source = random_source(1)
        for _ in range(30):
            net = some_clocked(source, ("y", "x")[:source.randrange(3)], ("m", "k", "l")[:source.randrange(4)], 8,
                               ("p", "o"))
            moves, first = plain_machine(net)
            letters = sorted({given for _, given in moves})
            for state in sorted({state for state, _ in moves}):
                row = tuple(source.choice(letters) for _ in range(source.randrange(9)))
                told = done_by(net, state, row)
                self.assertEqual(told, plain_run(moves, state, row))
                check_own_kinds(self, told)
            self.assertEqual(done_by(net, first, ()), ((), first))
        self.assertEqual(done_by(NET, (0, 1), ((1,), (1,))), (((0,), (1,)), (1, 1)))

    def test_long_rows(self):
        told, state = done_by(NET, (0, 0), ((1,),) * 70000)
        self.assertEqual((len(told), state), (70000, (0, 0)))
        self.assertEqual(told[:5], ((0,), (0,), (1,), (1,), (0,)))
        expect(self, InvalidInputs, None, done_by, NET, (0, 0), ((1,),) * 70001)
        self.assertIs(is_parting_row(NET, (0, 0), (0, 1), ((1,),) * 69999), False)
        self.assertIs(is_parting_row(NET, (0, 0), (0, 1), ((1,),) * 70000), True)
        self.assertIs(is_parting_row(NET, (0, 0), (0, 1), ((1,),) * 70001), False)

    def test_nets_without_keepers_or_inputs(self):
        still = ((("in", "x"), ("not", 0)), (("o", 1),))
        self.assertEqual(done_by(still, (), ((0,), (1,))), (((1,), (0,)), ()))
        self.assertEqual(reached(still), {(): ()})
        self.assertEqual(classes(still), (((),),))
        self.assertEqual(machine_of(still), ((((1,), 0), ((0,), 0)),))
        self.assertEqual(clocked(still, still), ("alike", (((), ()),)))
        alone = ((("keep", "k", 1, 1), ("not", 0)), (("o", 0),))
        self.assertEqual(done_by(alone, (1,), ((), ())), (((1,), (0,)), (1,)))
        self.assertEqual(reached(alone), {(0,): ((),), (1,): ()})
        self.assertEqual(machine_of(alone), ((((1,), 1),), (((0,), 0),)))
        self.assertEqual(parting_row(alone, (0,), (1,)), ((),))
        self.assertEqual(machine_of(((), ())), ((((), 0),),))


class ReachedTest(unittest.TestCase):
    def test_against_all_rows(self):
        source = random_source(2)
        for _ in range(60):
            net = some_clocked(source, ("y", "x")[:source.randrange(3)], ("m", "k", "l")[:source.randrange(4)], 8,
                               ("o",))
            moves, first = plain_machine(net)
            right = {}
            for row in rows_of(net, 7):
                right.setdefault(plain_run(moves, first, row)[1], row)
            told = reached(net)
            self.assertEqual(told, right)
            self.assertEqual(list(told), sorted(told))
            check_own_kinds(self, tuple(told.items()))

    def test_states_that_are_not_reached(self):
        # A shift is led to a state by its bits from the highest one on, where ahead of it there is nothing but 0.
        told = reached(shift(3))
        self.assertEqual(told[1, 0, 1], ((1,), (0,), (1,)))
        self.assertEqual(told[1, 0, 0], ((1,),))
        self.assertEqual(told[0, 0, 0], ())
        self.assertEqual(len(told), 8)
        stuck = ((("keep", "a", 0, 0), ("keep", "b", 1, 1)), (("o", 0),))
        self.assertEqual(reached(stuck), {(0, 1): ()})

    def test_many_states(self):
        told = reached(counter(10))
        self.assertEqual(len(told), 1024)
        self.assertEqual(max(map(len, told.values())), 1023)


class PartingTest(unittest.TestCase):
    def test_least_rows_against_all_rows(self):
        source = random_source(3)
        parted = 0
        for _ in range(40):
            net = some_clocked(source, ("y", "x")[:source.randrange(3)], ("m", "k", "l")[:source.randrange(1, 4)], 6,
                               ("o", "p")[:source.randrange(1, 3)])
            moves, _ = plain_machine(net)
            states = sorted({state for state, _ in moves})
            rows = list(rows_of(net, 4 if len(names_of(net, "in")) > 1 else 7))
            for one, other in itertools.product(states, states):
                least = next((row for row in rows if row and plain_run(moves, one, row)[0][-1]
                              != plain_run(moves, other, row)[0][-1]), None)
                self.assertEqual(parting_row(net, one, other), least)
                parted += least is not None
                for row in rows[:20]:
                    right = row != () and plain_run(moves, one, row)[0][-1] != plain_run(moves, other, row)[0][-1]
                    self.assertIs(is_parting_row(net, one, other, row), right)
        self.assertGreater(parted, 100)

    def test_least_of_several(self):
        # Each of three inputs parts the states of a shift; the row of all 0 comes first.
        net = shift(3)
        self.assertEqual(parting_row(net, (1, 0, 0), (0, 0, 0)), ((0,), (0,), (0,)))
        self.assertEqual(parting_row(net, (1, 0, 1), (0, 0, 0)), ((0,),))
        self.assertIsNone(parting_row(net, (1, 0, 1), (1, 0, 1)))

    def test_long_least_rows(self):
        net = counter(12)
        self.assertEqual(len(parting_row(net, (0,) * 12, (0,) * 11 + (1,))), 4095)
        self.assertEqual(len(parting_row(counter(16), (0,) * 16, (0,) * 15 + (1,))), 65535)

    def test_judge(self):
        check_judge(self, is_parting_row, (NET, (0, 0), (0, 1)), [((1,), (1,)), ((0,), (0,), (1,), (0,))],
                    [(), ((0,),), ((1,), (0,), (1,), (1,)), [(1,), (1,)], ((True,), (1,)), ([1], (1,)), ((1, 1), (1,)),
                     ((2,), (1,)), (1, 1), ((),), None])

    def test_errors(self):
        states = odd_but((0, 0)) + [(0, 0, 0), [0, 0], (0, True), (0, 2), (0,)]
        states = [value for value in states if value != (0, 0)]
        good = (NET, (0, 0), (1, 1))
        check_refused(self, parting_row, good, [(0, InvalidNet, nets_but(NET)), (1, InvalidState, states),
                                                (2, InvalidState, states)])
        rows = [value for value in odd_but() if value not in ((), (0,))] + [((True,),), ((1, 0),), [(1,)], ([1],), (1,)]
        check_refused(self, done_by, (NET, (0, 0), ((1,),)), [
            (0, InvalidNet, nets_but(NET)), (1, InvalidState, states), (2, InvalidInputs, rows)])
        for value in states:
            expect(self, InvalidState, None, is_parting_row, NET, value, (0, 0), None)
            expect(self, InvalidState, None, is_parting_row, NET, (0, 0), value, None)


def nets_but(net):
    return odd_but() + [net[0], (net[0] + net[0], ()), ((("not", 0),), ())]


class ClassesTest(unittest.TestCase):
    def lots_by_trial(self, net):
        """The reached states in lots, by pairs of states that a growing table tells apart."""
        moves, first = plain_machine(net)
        states = sorted(reached(net))
        letters = sorted({given for _, given in moves})
        lots = {state: tuple(moves[state, given][0] for given in letters) for state in states}
        for _ in states:
            lots = {state: (lots[state], tuple(lots[moves[state, given][1]] for given in letters)) for state in states}
            numbers = {lot: number for number, lot in enumerate(dict.fromkeys(lots.values()))}
            lots = {state: numbers[lots[state]] for state in states}
        found = {}
        for state in states:
            found.setdefault(lots[state], []).append(state)
        return tuple(tuple(lot) for lot in found.values())

    def test_against_trials(self):
        source = random_source(4)
        merged = 0
        for _ in range(80):
            net = some_clocked(source, ("y", "x")[:source.randrange(3)], ("m", "k", "l", "n")[:source.randrange(5)], 9,
                               ("o",))
            told = classes(net)
            check_own_kinds(self, told)
            self.assertEqual(told, self.lots_by_trial(net))
            merged += len(told) < len(reached(net))
            self.check_machine(net, told)
            for one, other in itertools.combinations(told, 2):
                self.assertLessEqual(len(parting_row(net, one[0], other[-1])), len(told) - 1)
            for lot in told:
                self.assertIsNone(parting_row(net, lot[0], lot[-1]))
        self.assertGreater(merged, 15)

    def check_machine(self, net, lots):
        moves, _ = plain_machine(net)
        rows = reached(net)
        least = [min((len(rows[state]), rows[state]) for state in lot) for lot in lots]
        order = sorted(range(len(lots)), key=lambda at: least[at])
        number = {state: order.index(at) for at, lot in enumerate(lots) for state in lot}
        letters = sorted({given for _, given in moves})
        right = tuple(tuple((moves[lots[at][0], given][0], number[moves[lots[at][0], given][1]]) for given in letters)
                      for at in order)
        self.assertEqual(machine_of(net), right)
        check_own_kinds(self, machine_of(net))

    def test_great_machines(self):
        # All states of a counter are unlike, and all states of one without outputs are alike.
        self.assertEqual(len(classes(counter(14))), 1 << 14)
        self.assertEqual(len(machine_of(counter(16))), 1 << 16)
        silent = (counter(12)[0], ())
        self.assertEqual(machine_of(silent), ((((), 0),),))
        self.assertEqual(len(classes(silent)[0]), 4096)
        self.assertEqual(len(machine_of(shift(15))), 1 << 15)

    def test_errors(self):
        for function in (reached, classes, machine_of):
            check_refused(self, function, (NET,), [(0, InvalidNet, nets_but(NET))])
            expect(self, InvalidOperation, None, function, LOOSE)
            self.check_limits(function)
        self.check_limits(lambda net: done_by(net, None, None))
        self.check_limits(lambda net: parting_row(net, None, None))
        self.check_limits(lambda net: is_parting_row(net, None, None, None))
        self.check_limits(lambda net: clocked(net, net))
        self.check_limits(lambda net: is_clocked_paper(net, net, None))

    def check_limits(self, function):
        def wide(inputs, keepers, first=0):
            cells = [("in", f"x{at}") for at in range(inputs)] + [("keep", f"k{at}", first, 0) for at in range(keepers)]
            return tuple(cells) or (("one",),), ()

        function.__name__ = getattr(function, "__name__", "call")
        expect(self, TooMany, 6, function, wide(7, 0))
        expect(self, TooMany, 6, function, wide(7, 20))
        expect(self, TooMany, 16, function, wide(6, 11))
        expect(self, TooMany, 16, function, wide(0, 17))
        expect(self, InvalidOperation, None, function, wide(7, 20, None))

    def test_six_inputs_and_sixteen_letters(self):
        net = (tuple(("in", f"x{at}") for at in range(6)) + tuple(("keep", f"k{at:02}", 0, (at + 5) % 16)
                                                                for at in range(10)), (("o", 15),))
        self.assertEqual(len(reached(net)), 1 << 10)
        self.assertEqual(len(machine_of(net)[0]), 64)
        half = (net[0][:11], (("o", 10),))
        half = (tuple((*cell[:3], cell[3] % 11) if cell[0] == "keep" else cell for cell in half[0]), half[1])
        self.assertIs(is_clocked_paper(half, half, clocked(half, half)), True)
        six = (half[0] + (("keep", "z", 0, 0),), half[1])
        expect(self, TooMany, 16, clocked, half, six)
        expect(self, TooMany, 16, is_clocked_paper, six, half, None)


class PapersTest(unittest.TestCase):
    def alike_by_rows(self, one, other, most):
        """The least row by which two nets are apart, of at most so many inputs."""
        (moves, first), (others, second) = plain_machine(one), plain_machine(other)
        for row in rows_of(one, most):
            if plain_run(moves, first, row)[0] != plain_run(others, second, row)[0]:
                return row
        return None

    def test_against_all_rows(self):
        source = random_source(5)
        alike = 0
        for _ in range(120):
            inputs = ("x", "y")[:source.randrange(3)]
            one = some_clocked(source, inputs, ("k", "l")[:source.randrange(3)], source.randrange(7), ("o",))
            other = some_clocked(source, inputs, ("k", "n")[:source.randrange(3)], source.randrange(7), ("o",))
            row = self.alike_by_rows(one, other, (8, 7, 5)[len(inputs)])
            paper = clocked(one, other)
            check_own_kinds(self, paper)
            self.assertIs(is_clocked_paper(one, other, paper), True)
            self.assertEqual(paper[0], "alike" if row is None else "apart")
            self.assertEqual(machine_of(one) == machine_of(other), row is None)
            if row is not None:
                self.assertEqual(paper[1], row)
                self.assertLessEqual(len(row), len(machine_of(one)) + len(machine_of(other)) - 1)
            else:
                self.check_pairs(one, other, paper)
                alike += 1
        self.assertGreater(alike, 20)

    def check_pairs(self, one, other, paper):
        """All sets of pairs, if they are few, against the words of [9.5]."""
        (moves, first), (others, second) = plain_machine(one), plain_machine(other)
        letters = sorted({given for _, given in moves})
        every = sorted(itertools.product(sorted({state for state, _ in moves}), sorted({state for state, _ in others})))
        if len(every) > 8:
            return
        for many in range(len(every) + 1):
            for pairs in itertools.combinations(every, many):
                right = (first, second) in pairs and all(
                    moves[a, given][0] == others[b, given][0] and (moves[a, given][1], others[b, given][1]) in pairs
                    for a, b in pairs for given in letters)
                self.assertIs(is_clocked_paper(one, other, ("alike", pairs)), right)
                if many > 1:
                    self.assertIs(is_clocked_paper(one, other, ("alike", pairs[::-1])), False)
                    self.assertIs(is_clocked_paper(one, other, ("alike", pairs[:1] + pairs)), False)

    def test_judge(self):
        twice = ((("keep", "b", 0, 3), ("keep", "a", 0, 5), ("in", "up"), ("xor", 0, 2), ("and", 0, 2), ("xor", 4, 1),
                  ("keep", "c", 1, 6)), (("o", 1),))
        pairs = tuple(((a, b), (a, b, 1)) for a, b in itertools.product((0, 1), repeat=2))
        more = tuple(sorted(pairs + tuple(((a, b), (a, b, 0)) for a, b in itertools.product((0, 1), repeat=2))))
        self.assertEqual(clocked(NET, twice), ("alike", pairs))
        wrongs = [("alike", pairs[:-1]), ("alike", pairs[1:]), ("alike", pairs[::-1]), ("alike", list(pairs)), pairs,
                  ("alike", pairs, ()), ["alike", pairs], ("apart", pairs), ("alike", ()), ("apart", ()),
                  ("apart", ((1,), (1,), (1,))), ("alike", pairs + ((),)), ("alike", (((0, 0), (0, 0, True)),) + pairs[1:]),
                  ("alike", (((0, 0), [0, 0, 1]),) + pairs[1:]), ("alike", (((0, 0),),) + pairs[1:]), ("like", pairs),
                  ("alike", None), ("apart", None), (None, pairs)]
        check_judge(self, is_clocked_paper, (NET, twice), [("alike", pairs), ("alike", more)], wrongs)
        other = (NET[0], (("o", 0),))
        self.assertEqual(clocked(NET, other), ("apart", ((1,), (0,))))
        check_judge(self, is_clocked_paper, (NET, other), [("apart", ((1,), (0,))), ("apart", ((0,), (1,), (1,)))],
                    [("apart", ((1,), (1,), (1,), (0,))), ("apart", ((0,),)), ("apart", [(1,), (0,)]), ("apart", ((1,), 0)),
                     ("apart", ()), ("apart", ((True,), (0,))), ("alike", pairs), ("alike", (((0, 0), (0, 0)),))])

    def test_errors(self):
        for function in (clocked, lambda one, other: is_clocked_paper(one, other, None)):
            check_refused(self, function, (NET, NET), [(0, InvalidNet, nets_but(NET)), (1, InvalidNet, nets_but(NET))])
            waking = (tuple(("keep", *cell[1:2], None, cell[3]) if cell[0] == "keep" else cell for cell in NET[0]), NET[1])
            for other in (LOOSE, waking, (NET[0], ()), (NET[0], (("p", 0),)), (NET[0], (("o", 0), ("p", 0))), shift(2),
                          (NET[0] + (("in", "x"),), NET[1])):
                expect(self, InvalidOperation, None, function, NET, other)
                expect(self, InvalidOperation, None, function, other, NET)
            expect(self, InvalidNet, None, function, LOOSE, None)

    def test_what_is_not_true(self):
        # Alike nets that reach unlike numbers of states; states that are alike behind a row along which outputs differ.
        idle = ((("in", "x"), ("keep", "k", 0, 0), ("one",)), (("o", 2),))
        self.assertEqual(clocked(idle, ((("in", "x"), ("one",)), (("o", 1),)))[0], "alike")
        self.assertNotEqual(len(reached(idle)), 1)
        one = shift(1)
        self.assertEqual(done_by(one, (0,), ((0,),))[1], done_by(one, (1,), ((0,),))[1])
        self.assertIs(is_parting_row(one, (0,), (1,), ((0,),)), True)


if __name__ == "__main__":
    unittest.main()
