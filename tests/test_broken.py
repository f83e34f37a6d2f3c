"""Broken wires [18.1] to [18.5]."""

import itertools
import unittest

from nets_made import ARITY, GATES, fillings, gate, names_of, some_clocked, some_still
from support import alike, check_own_kinds, check_refused, error_of, expect, numbers_but, odd_but, random_source
from test_clocked import LOOSE, NET, NETS, rows_of, shift
from truebeat.errors import InvalidInputs, InvalidNet, InvalidNumber, InvalidOperation, TooMany
from truebeat.judge import broken as module
from truebeat.judge.alike import alike_paper, is_alike_paper
from truebeat.judge.broken import are_tests, break_paper, broken, does_show, is_break_paper, tests, unrolled
from truebeat.judge.clocked import done_by, is_clocked_paper
from truebeat.nets.net import inputs_of, is_net, keepers_of

# The cell 4 is always 0, so that some of its breaks, and some of those behind it, are never shown.
IDLE = ((("in", "a"), ("in", "b"), ("not", 0), ("one",), ("and", 0, 2), ("or", 4, 1), ("keep", "k", 0, 5), ("xor", 5, 6)), (("o", 7), ("p", 6)))


def broken_values(cells, state, given, index, bit):
    """The bits of all cells in a beat of the broken net."""
    bits = []
    for at, cell in enumerate(cells):
        if cell[0] == "in":
            value = given[cell[1]]
        elif cell[0] == "keep":
            value = state[cell[1]]
        else:
            value = gate(cell[0], [bits[look] for look in cell[1:]])
        bits.append(bit if at == index else value)
    return bits


def plain_run(net, row, index=None, bit=None):
    """The tuples of the outputs of all beats of a row, of the net or of the broken net."""
    cells, ports = net
    inputs = sorted(names_of(net, "in"))
    state = {cell[1]: cell[2] for cell in cells if cell[0] == "keep"}
    told = []
    for given in row:
        bits = broken_values(cells, state, dict(zip(inputs, given)), index, bit)
        state = {cell[1]: bits[cell[3]] for cell in cells if cell[0] == "keep"}
        told.append(tuple(bits[at] for _, at in sorted(ports)))
    return tuple(told)


def all_breaks(net):
    return [(index, bit) for index in range(len(net[0])) for bit in (0, 1)]


def shown_by_words(net, most):
    """For each break the set of the rows of 1 to so many inputs that show it."""
    rows = [row for row in rows_of(net, most) if row]
    right = {row: plain_run(net, row) for row in rows}
    return {pair: [row for row in rows if plain_run(net, row, *pair) != right[row]] for pair in all_breaks(net)}


def some_net(source):
    inputs = ["c", "a", "b"][:source.randrange(4)]
    outputs = ["p", "o", "q"][:source.randrange(1, 4)]
    if source.randrange(3) == 0:
        return some_still(source, inputs, source.randrange(1, 9), outputs)
    return some_clocked(source, inputs, ["l", "k", "m"][:source.randrange(1, 4)], source.randrange(1, 8), outputs)


def read_once(source, leaves, words=("and", "or", "not")):
    """A still net of gates in which each cell is looked at just once, or is the place of just one output."""
    cells = [("in", f"x{at}") for at in range(leaves)]
    loose = list(range(leaves))
    while len(loose) > 1 and source.randrange(9):
        word = source.choice(words)
        looks = [loose.pop(source.randrange(len(loose))) for _ in range(ARITY[word])]
        loose.append(len(cells))
        cells.append((word, *looks))
    return tuple(cells), tuple((f"o{at}", index) for at, index in enumerate(loose))


class BrokenTest(unittest.TestCase):
    def test_constants(self):
        self.assertEqual((module.MAX_LETTERS, module.MAX_BROKEN), (12, 500))

    def check_broken(self, net, index, bit):
        told = broken(net, index, bit)
        self.assertIs(is_net(told), True)
        check_own_kinds(self, told)
        self.assertLessEqual(len(told[0]), 2 * len(net[0]) + 2)
        for names in (inputs_of, keepers_of):
            self.assertEqual(sorted(names(told)), sorted(names(net)))
        self.assertEqual(sorted(name for name, _ in told[1]), sorted(name for name, _ in net[1]))
        self.assertTrue(all(cell[0] != "keep" or cell[2] in (0, 1) for cell in told[0]))
        return told

    def test_drawn(self):
        source = random_source(1)
        kinds = {}
        for _ in range(250):
            net = some_net(source)
            letters = [tuple(filling.values()) for filling in fillings(sorted(names_of(net, "in")))]
            for index, bit in all_breaks(net):
                told = self.check_broken(net, index, bit)
                word = net[0][index][0]
                kinds[word, bit] = kinds.get((word, bit), 0) + 1
                first = {cell[1]: cell[2] for cell in told[0] if cell[0] == "keep"}
                for _ in range(3):
                    row = tuple(source.choice(letters) for _ in range(source.randrange(1, 9)))
                    shown, _ = done_by(told, tuple(first[name] for name in sorted(first)), row)
                    right = plain_run(net, row, index, bit)
                    self.assertEqual(shown, right, (net, index, bit))
                    self.assertIs(does_show(net, index, bit, row), right != plain_run(net, row))
        self.assertEqual(len(kinds), 2 * (len(GATES) + 3))
        self.assertTrue(all(many > 30 for many in kinds.values()), kinds)

    def test_keepers_from_the_first_beat_on(self):
        net = shift(2)
        self.assertIs(does_show(net, 2, 1, ((0,),)), True)
        self.assertIs(does_show(net, 1, 1, ((0,),)), False)
        self.assertIs(does_show(net, 1, 1, ((0,), (0,))), True)
        self.assertIs(does_show(net, 0, 1, ((0,), (0,))), False)
        self.assertIs(does_show(net, 0, 1, ((0,), (0,), (0,))), True)
        self.assertIs(does_show(net, 0, 1, ((1,),) * 400), False)
        self.assertIs(does_show(net, 0, 1, ((1,),) * 397 + ((0,),) * 3), True)
        # A keeper that feeds itself, and one that is fed by a broken one.
        loop = ((("keep", "k", 1, 0), ("keep", "l", 1, 0)), (("o", 1),))
        self.assertEqual([does_show(loop, 0, 0, ((),) * many) for many in (1, 2)], [False, True])
        self.assertEqual([does_show(loop, 1, 0, ((),) * many) for many in (1, 2)], [True, True])
        self.assertIs(does_show(((("in", "a"),), (("o", 0), ("p", 0))), 0, 1, ((0,),)), True)

    def test_shown_ahead_of_the_last_beat(self):
        """[18.5]: what a row shows it need not show at its last beat."""
        net = shift(1)
        row = ((1,), (0,), (1,))
        self.assertNotEqual(plain_run(net, row, 0, 0)[1], plain_run(net, row)[1])
        self.assertEqual(plain_run(net, row, 0, 0)[2], plain_run(net, row)[2])
        self.assertIs(does_show(net, 0, 0, row), True)

    def test_no_cells_and_no_outputs(self):
        expect(self, InvalidNumber, 0, broken, ((), ()), 0, 0)
        self.assertEqual(tests(((), ()), 3), ((), ()))
        net = ((("in", "a"), ("not", 0)), ())
        self.assertEqual(tests(net, 2), ((), tuple(all_breaks(net))))
        self.assertEqual(break_paper(net, 1, 0, 2)[0], "never")
        self.check_broken(net, 0, 1)


class UnrolledTest(unittest.TestCase):
    def check_unrolled(self, net, beats):
        told = unrolled(net, beats)
        check_own_kinds(self, told)
        self.assertIs(is_net(told), True)
        self.assertLessEqual(len(told[0]), 2 * len(net[0]) * beats + 2)
        many, ports = len(names_of(net, "in")), len(net[1])
        self.assertEqual(sorted(inputs_of(told)), sorted(f"x{at}" for at in range(many * beats)))
        self.assertEqual(sorted(name for name, _ in told[1]), sorted(f"y{at}" for at in range(ports * beats)))
        self.assertEqual(keepers_of(told), ())
        return told

    def test_drawn(self):
        source = random_source(2)
        for _ in range(150):
            net = some_net(source)
            many = len(names_of(net, "in"))
            beats = source.randrange(1, 1 + (12 if many == 0 else 12 // many))
            told = self.check_unrolled(net, beats)
            letters = [tuple(filling.values()) for filling in fillings(sorted(names_of(net, "in")))]
            ports = sorted(name for name, _ in told[1])
            for _ in range(5):
                row = tuple(source.choice(letters) for _ in range(beats))
                bits = [bit for given in row for bit in given]
                # The one beat of a still net: its inputs and outputs by ascending names, in which x10 stands ahead of x2.
                given = tuple(bits[int(name[1:])] for name in sorted(names_of(told, "in")))
                shown = dict(zip(ports, plain_run(told, (given,))[0]))
                right = [bit for output in plain_run(net, row) for bit in output]
                self.assertEqual([shown[f"y{at}"] for at in range(len(right))], right)

    def test_sequence_of_names(self):
        net = ((("in", "b"), ("in", "a")), (("p", 0), ("o", 1)))
        told = self.check_unrolled(net, 2)
        cells, outs = told
        self.assertEqual([cells[dict(outs)[f"y{at}"]] for at in range(4)], [("in", f"x{at}") for at in range(4)])

    def test_bounds(self):
        still = some_still(random_source(3), ["a"], 450, ["o"])
        net = (still[0] + (("one",),) * (500 - len(still[0])), still[1])
        for function, *more in ((broken, 1, 0), (unrolled, 1), (does_show, 1, 0, ((1,),)), (tests, 1), (are_tests, 1, None)):
            self.assertIsNone(error_of(function, net, *more))
            expect(self, TooMany, 500, function, (net[0] + (("one",),), net[1]), *more)
        small = ((("in", "a"), ("in", "b")), (("o", 0),))
        self.check_unrolled(small, 6)
        for function, *more in ((unrolled, 7), (break_paper, 0, 0, 7), (is_break_paper, 0, 0, 7, None), (tests, 7), (are_tests, 7, None)):
            rest = more[2:] if function in (break_paper, is_break_paper) else more
            expect(self, TooMany, 12, function, small, *more)
            args = (*more[:-len(rest)], rest[0] - 1, *rest[1:])
            self.assertIsNone(error_of(function, small, *args), function.__name__)
        wide = ((("one",),), tuple((f"o{at}", 0) for at in range(201)))
        expect(self, TooMany, 400, unrolled, wide, 2)
        expect(self, TooMany, 400, tests, wide, 2)
        self.check_unrolled((wide[0], wide[1][:200]), 2)
        cells = tuple(("in", name) for name in "abcdefghijklm")
        expect(self, TooMany, 12, unrolled, (cells, ()), 1)
        self.assertIsNone(error_of(broken, (cells, ()), 0, 0))
        many = ((("one",),) * 42, (("o", 0),))
        expect(self, TooMany, 500, unrolled, many, 12)
        self.check_unrolled((many[0][:41], many[1]), 12)
        # With all three too great, and with two, the first one is told.
        expect(self, TooMany, 500, unrolled, (cells * 0 + tuple(("in", f"a{at}") for at in range(300)), wide[1]), 2)
        expect(self, TooMany, 12, unrolled, (tuple(("in", f"a{at}") for at in range(100)), wide[1]), 2)


class PaperTest(unittest.TestCase):
    def test_drawn(self):
        """[18.2], both directions, against all rows."""
        source = random_source(4)
        seen = {"shown": 0, "never": 0}
        for _ in range(60):
            net = some_net(source)
            many = len(names_of(net, "in"))
            beats = source.randrange(1, 4 if many < 2 else 3)
            rows = [row for row in rows_of(net, beats) if row]
            for (index, bit), good in shown_by_words(net, beats).items():
                paper = break_paper(net, index, bit, beats)
                check_own_kinds(self, paper)
                seen[paper[0]] += 1
                self.assertIs(is_break_paper(net, index, bit, beats, paper), True)
                if good:
                    self.assertEqual(paper, ("shown", good[0]))
                else:
                    pair = unrolled(net, beats), unrolled(broken(net, index, bit), beats)
                    self.assertIs(is_alike_paper(*pair, paper[1]), True)
                    self.assertEqual((paper[0], paper[1][0]), ("never", "alike"))
                for row in source.sample(rows, min(8, len(rows))):
                    self.assertIs(is_break_paper(net, index, bit, beats, ("shown", row)), row in good)
        self.assertTrue(min(seen.values()) > 100, seen)

    def test_judge(self):
        paper = break_paper(IDLE, 4, 0, 2)
        self.assertEqual(paper[0], "never")
        self.assertIs(is_break_paper(IDLE, 4, 0, 2, paper), True)
        self.assertIs(is_break_paper(IDLE, 4, 0, 3, paper), False)
        self.assertIs(is_break_paper(IDLE, 4, 1, 2, paper), False)
        likeness = paper[1]
        parted = alike_paper(unrolled(IDLE, 2), unrolled(broken(IDLE, 4, 1), 2))
        self.assertEqual(parted[0], "unlike")
        right = ("shown", ((0, 0),))
        self.assertEqual(break_paper(IDLE, 4, 1, 2), right)
        for value in (right, ("shown", ((1, 0), (0, 0))), ("shown", ((1, 1), (1, 0)))):
            self.assertIs(is_break_paper(IDLE, 4, 1, 2, value), True)
        for value in odd_but() + [("shown", ()), ("shown", ((0, 1),)), ("shown", ((0, 0),) * 3), ("shown", [(0, 0)]), ("shown", ((False, 0),)),
                                  ("shown", ((0,),)), ("shown", (0, 0)), ("shown", None), ("never", ((0, 0),)), (*right, ()), ("never", parted),
                                  ("shown", parted), ("never", likeness), ("never", None), ("never", ()), ("shown", ((0, 0), None)), [*right]]:
            self.assertIs(is_break_paper(IDLE, 4, 1, 2, value), False, value)
        for value in odd_but() + [("shown", ((0, 0),)), ("ever", likeness), (None, likeness), ("alike", likeness), ("never", likeness[:5]), ("never", (*likeness[:5], ())), ("never", parted), likeness]:
            self.assertIs(is_break_paper(IDLE, 4, 0, 2, value), False, value)

    def test_at_the_bounds(self):
        """A net at the bounds, whose broken net is beyond them, shown and never shown."""
        source = random_source(5)
        cells = [("in", f"a{at}") for at in range(12)] + [("not", 0), ("and", 0, 12)]
        while len(cells) < 500:
            cells.append(("or" if len(cells) % 2 else "and", len(cells) - 1, source.randrange(12)))
        net = (tuple(cells), (("o", 499), ("p", 13)))
        for index, bit in ((13, 0), (13, 1), (0, 1), (499, 0)):
            told = broken(net, index, bit)
            self.assertGreater(len(told[0]), 500)
            expect(self, TooMany, 500, unrolled, told, 1)
            paper = break_paper(net, index, bit, 1)
            self.assertIs(is_break_paper(net, index, bit, 1, paper), True)
            self.assertEqual(paper[0], "never" if (index, bit) == (13, 0) else "shown")
        long = ((("in", "a"), *[("keep", f"k{at:02}", 0, at) for at in range(11)]), (("o", 11),))
        self.assertEqual(break_paper(long, 0, 0, 12), ("shown", ((1,),) + ((0,),) * 11))
        self.assertEqual(break_paper(long, 0, 0, 11)[0], "never")
        self.assertEqual(break_paper(long, 0, 1, 12), ("shown", ((0,),) * 12))

    def test_errors(self):
        nets = [(0, InvalidNet, NETS[:-1])]
        breaks = [*nets, (1, InvalidNumber, numbers_but(0, 7)), (2, InvalidNumber, numbers_but(0, 1))]
        beats = (3, InvalidNumber, numbers_but(1, 12))
        rows = odd_but() + [(), [(0, 1)], ((0,),), ((0, 1), (0, 2)), ((0, True),), (0, 1), ((0, 1),) * 401, ((0, 1, 1),), ([0, 1],)]
        check_refused(self, broken, (IDLE, 3, 1), breaks)
        check_refused(self, unrolled, (IDLE, 2), [*nets, (1, *beats[1:])])
        check_refused(self, does_show, (IDLE, 3, 1, ((0, 1),)), [*breaks, (3, InvalidInputs, rows)])
        check_refused(self, break_paper, (IDLE, 3, 1, 2), [*breaks, beats])
        check_refused(self, is_break_paper, (IDLE, 3, 1, 2, None), [*breaks, beats])
        check_refused(self, tests, (IDLE, 2), [*nets, (1, *beats[1:])])
        check_refused(self, are_tests, (IDLE, 2, None), [*nets, (1, *beats[1:])])

    def test_order_of_errors(self):
        great = ((("keep", "k", None, 0),) + (("one",),) * 500, ())
        for function, *more in ((broken, 600, 2), (unrolled, 0), (does_show, 600, 2, None), (break_paper, 600, 2, 0), (tests, 13),
                                (is_break_paper, 600, 2, 0, 0), (are_tests, 13, 0)):
            expect(self, InvalidOperation, None, function, great, *more)
            expect(self, InvalidOperation, None, function, LOOSE, *more)
        great = ((("in", "a"),) + (("one",),) * 500, ())
        expect(self, InvalidNumber, 501, broken, great, 501, 2)
        expect(self, InvalidNumber, 2, broken, great, 500, 2)
        expect(self, InvalidNumber, 13, break_paper, great, 500, 1, 13)
        expect(self, InvalidInputs, None, does_show, great, 500, 1, ())
        expect(self, TooMany, 500, does_show, great, 500, 1, ((0,),))
        expect(self, InvalidNumber, 0, unrolled, great, 0)


class TestsTest(unittest.TestCase):
    def right_by_words(self, shown, rows):
        """Whether the rows show all that can be shown, and none can be left out."""
        full = {pair for pair in shown if shown[pair]}
        covers = [{pair for pair in full if row in shown[pair]} for row in rows]
        if set().union(*covers) != full:
            return False
        return all(set().union(*covers[:at], *covers[at + 1:]) != full for at in range(len(rows)))

    def test_drawn(self):
        """[18.3] against plain trials of rows."""
        source = random_source(6)
        right = wrong = 0
        for _ in range(80):
            net = some_net(source)
            many = len(names_of(net, "in"))
            beats = source.randrange(1, 4 if many < 2 else 3)
            shown = shown_by_words(net, beats)
            told = tests(net, beats)
            check_own_kinds(self, told)
            self.assertTrue(alike(told[1], tuple(pair for pair in shown if not shown[pair])))
            self.assertEqual(list(told[0]), sorted(set(told[0])))
            self.assertTrue(all(1 <= len(row) <= beats for row in told[0]))
            self.assertTrue(self.right_by_words(shown, told[0]))
            self.assertIs(are_tests(net, beats, told), True)
            rows = [row for row in rows_of(net, beats) if row]
            for _ in range(12):
                some = set(source.sample(rows, min(len(rows), source.randrange(5)))) | (set(told[0]) if source.randrange(2) else set())
                while some and source.randrange(3):
                    # What can be left out is left out, so that some rows are right.
                    extra = [row for row in some if self.right_by_words(shown, some - {row})]
                    some.discard(source.choice(extra or sorted(some)))
                some = tuple(sorted(some))
                good = self.right_by_words(shown, some)
                self.assertIs(are_tests(net, beats, (some, told[1])), good)
                right += good
                wrong += not good
            if told[1]:
                self.assertIs(are_tests(net, beats, (told[0], told[1][1:])), False)
        self.assertTrue(right > 60 and wrong > 200, (right, wrong))

    def test_greater_nets(self):
        """Nets of which many rows show many breaks: of the rows none can be left out."""
        source = random_source(9)
        for many, gates in ((5, 30), (5, 60), (6, 60), (8, 100), (4, 40)) * 3:
            net = some_still(source, "abcdefgh"[:many], gates, ["o", "p", "q", "r"])
            told = tests(net, 1)
            self.assertIs(are_tests(net, 1, told), True)
            for index in range(len(told[0])):
                self.assertIs(are_tests(net, 1, (told[0][:index] + told[0][index + 1:], told[1])), False)

    def test_judge(self):
        rows, never = tests(IDLE, 2)
        self.assertIs(are_tests(IDLE, 2, (rows, never)), True)
        self.assertGreater(len(rows), 1)
        self.assertIn((4, 0), never)
        for index in range(len(rows)):
            self.assertIs(are_tests(IDLE, 2, (rows[:index] + rows[index + 1:], never)), False)
        more = tuple(row for row in rows_of(IDLE, 2) if row and row not in rows)
        for value in [tuple(sorted((*rows, row))) for row in more[:6]] + [
                rows[::-1], rows + rows[-1:], list(rows), (*rows[:-1], rows[-1] * 2), ((), *rows), (*rows, None), (), None,
                ((tuple(bool(bit) for bit in rows[0][0]), *rows[0][1:]), *rows[1:])]:
            self.assertIs(are_tests(IDLE, 2, (value, never)), False, value)
        for value in (never[1:], never[::-1], (*never, (7, 1)), list(never), (), None, tuple((index, bool(bit)) for index, bit in never),
                      (*never[:-1], None), tuple(list(pair) for pair in never), ((-1, 0), *never), (*never, (8, 0))):
            self.assertIs(are_tests(IDLE, 2, (rows, value)), False, value)
        for value in odd_but() + [(rows,), (rows, never, ()), [rows, never], rows]:
            self.assertIs(are_tests(IDLE, 2, value), False)

    def test_shorter_rows_are_right_too(self):
        net = ((("in", "a"), ("not", 0)), (("o", 1),))
        self.assertIs(are_tests(net, 3, ((((0,),), ((1,),)), ())), True)
        self.assertIs(are_tests(net, 3, ((((0,), (1,)),), ())), True)
        self.assertIs(are_tests(net, 3, ((((0,), (1,), (0,)),), ())), True)
        self.assertIs(are_tests(net, 3, ((((0,), (1,)), ((1,), (0,))), ())), False)
        self.assertIs(are_tests(net, 1, ((((0,), (1,)),), ())), False)

    def test_never_shown_in_still_nets(self):
        """[18.4]: a break of a still net that no input shows leaves a net that is alike."""
        source = random_source(7)
        found = 0
        for _ in range(120):
            net = some_still(source, ["a", "b", "c"], source.randrange(1, 9), ["o", "p"])
            for index, bit in tests(net, 1)[1]:
                other = broken(net, index, bit)
                paper = alike_paper(net, other)
                self.assertEqual(paper[0], "alike")
                self.assertIs(is_clocked_paper(net, other, ("alike", (((), ()),))), True)
                found += 1
        self.assertGreater(found, 200)

    def test_each_cell_looked_at_once(self):
        """[18.4]: of such nets each break is shown, and rows that show all breaks of inputs show all."""
        source = random_source(8)
        for _ in range(60):
            net = read_once(source, source.randrange(1, 6))
            shown = shown_by_words(net, 1)
            rows, never = tests(net, 1)
            self.assertEqual(never, ())
            self.assertTrue(all(shown.values()))
            inputs = [pair for pair in shown if net[0][pair[0]][0] == "in"]
            every = [row for row in rows_of(net, 1) if row]
            for _ in range(10):
                some = source.sample(every, source.randrange(1, len(every) + 1))
                if all(set(shown[pair]) & set(some) for pair in inputs):
                    self.assertTrue(all(set(shown[pair]) & set(some) for pair in shown))
        # [18.5]: with a cell `xor` rows may show all breaks of the inputs, and not all.
        cells = (("in", "a"), ("in", "b"), ("in", "c"), ("in", "d"), ("xor", 0, 1), ("xor", 2, 3), ("and", 4, 5))
        net = (cells, (("o", 6),))
        shown = shown_by_words(net, 1)
        every = [row for row in rows_of(net, 1) if row]
        apart = [some for some in itertools.combinations(every, 3)
                 if all(set(shown[pair]) & set(some) for pair in shown if pair[0] < 4) and not all(set(shown[pair]) & set(some) for pair in shown)]
        self.assertTrue(apart)

    def test_not_true(self):
        """[18.5]: what is never shown in one beat may be shown in two."""
        self.assertEqual(break_paper(shift(1), 0, 1, 1)[0], "never")
        self.assertEqual(break_paper(shift(1), 0, 1, 2)[0], "shown")
        rows, never = tests(NET, 4)
        self.assertIs(are_tests(NET, 4, (rows, never)), True)


if __name__ == "__main__":
    unittest.main()
