"""What holds of all functions [0.1] to [0.3]: own types, unchanged arguments, equal results of equal calls."""

import collections
import copy
import unittest

from machines_made import some_pipe
from sheets_made import COUNT, every_kind
from support import alike, check_own_kinds, error_of, random_source
from test_net import HALF, TURNING, some_lot
from truebeat.base import words
from truebeat.core import counts, gates, meaning, pipe, single
from truebeat.errors import NothingToUndo, Refused, UnknownName
from truebeat.house import board as boards, log
from truebeat.judge import alike as judge, broken, clocked, lesser, tables, waking
from truebeat.near import alike as near_alike, lines, misses
from truebeat.nets import net, walk
from truebeat.parts import adders, long, products, shifts
from truebeat.plain import shapes
from truebeat.plain.machine import Plain
from truebeat.sheets import lay, sheet
from truebeat.text import assemble, formulas, steps
from truebeat.whole import computer as computers

LOOSE = (("and", 3, 3), ("not", 0), ("one",), ("in", "a"), ("keep", "k", None, 0))
RING = (("not", 1), ("or", 2, 0), ("one",))
PLAN = (((2, 0), (3, 1), (2, 3)), (0, 1, 2))
ROUNDS = ((0, 1), (1, 2), (1, 0))
EVERY = every_kind(3, 2)
CELLS = some_lot(random_source(1), 14, False)
STATE = {name: 1 for name in net.keepers_of((CELLS, ()))}
GIVEN = {name: 1 for name in net.inputs_of((CELLS, ()))}
TABLE = ((1, 0, 1), (0, 2, 1))
FILLING = {"y": 0, "x": 1}
PAPER = judge.alike_paper(HALF, HALF)
BOTH = ((("in", "x"), ("not", 0), ("keep", "l", 1, 3), ("keep", "k", 0, 1)), (("o", 2), ("p", 3)))
CHANGED = (BOTH[0][:3] + (("keep", "k", 1, 1),), BOTH[1])
LESSER = lesser.lesser(BOTH)
ROWS = ({"x": None}, {"x": 1})
SHAPE = shapes.Shape(4, 2)
SINGLE = {"pc": 1, "r1": 7, "saved": 0, "allowed": 1, "ended": 0}
PIPE = {**some_pipe(random_source(4), SHAPE), "m_kind": 2, "m_x": 3, "m_y": 4, "ended": 0}
WAITING = {**pipe.first_pipe(SHAPE), "m_kind": 2, "m_x": 3, "m_y": 4}
MEMORY, CHOICE = {9: 1, 2: 3}, (3, 1, 9, 0)
NEAR = lines.Near(4, 2, ((True, 2, True, 7, 0), (False, 0, True, 1, 1), (True, 1, False, 3, 0), (True, 3, False, 0, 0)))
BACK = lines.Near(4, 2, NEAR.lines, ("back", 0, 0, 4))
SWAPPED = lines.Near(4, 2, NEAR.lines[:2] + NEAR.lines[:1:-1])
ASKS, ROW = (("read", 4), ("write", 8, 3), ("read", 11)), ((1, 0), (1, 1)) * 4
RUN = (SHAPE, (37379, 61953, 43010, 61440), MEMORY)
WIDE = shapes.Shape(8, 4)
LINES = (("label", "b"), 37887, ("same", 1, 0, "a"), *[0] * 40, ("label", "a"), ("place", 1, "b"))
FORMULA = ("two", "part", ("number", -3), ("two", "add", ("cell", 3), ("number", 4)))
BEATS = ((1, 1, 0, 0), (2, 1, 1, 1), (3, 1, 0, 0), (4, 1, 0, 0), (5, 0, 0, 0), (5, 1, 0, 0), (5, 1, 0, 0), (5, 1, 0, 0))
COMPUTER = computers.Computer(*RUN, lines.Near(4, 1)).run(BEATS)
CALLS = (
    (words.is_word, 4, 3), (words.bits_of_word, 4, 6), (words.word_of_bits, (0, 1)), (words.wrapped, 4, 3),
    (words.signed, 4, 3), (words.carries, 4, 6, 3), (words.added, 4, 6, 0), (words.lessened, 4, 6, 0),
    (words.is_below, 4, 6, 7), (words.is_under, 4, 6, 7), (words.multiplied, 4, 6, 1), (words.divided, 4, 6, 1),
    (words.moved_left, 4, 6, 0), (words.moved_right, 4, 6, 0), (words.cut, 4, 6, 0, 4),
    (words.put_together, ((4, 6),)), (words.widened, 4, 6, 4), (words.lengthened, 4, 6, 4),
    (net.is_net, HALF), (net.is_lot, LOOSE), (net.order_of, LOOSE), (net.is_order, LOOSE, (2, 3, 0, 1, 4)),
    (net.least_ring, RING), (net.is_ring, RING, (0, 1)), (net.arranged, LOOSE, (("o", 1),)), (net.inputs_of, HALF),
    (net.keepers_of, TURNING), (net.depths, HALF), (net.longest_way, HALF), (net.is_longest_way, HALF, (0, 2)),
    (walk.first_state, (LOOSE[2:4] + (("keep", "k", None, 0), ("keep", "l", 1, 0)), ()), 2, {"k": 2}),
    (walk.worked, TURNING, 2, {"k": 1}, {"up": 3}), (walk.beat, (CELLS, (("o", 3), ("a", 9))), 1, STATE, GIVEN),
    (walk.run, TURNING, 2, {"k": 1}, ({"up": 3}, {"up": 0})), (walk.run, TURNING, 2, {"k": 1}, ()),
    (walk.lane_of, {"b": 1, "a": 0}, 0), (walk.joined, ({"b": 1, "a": 0},)),
    (sheet.is_sheet, COUNT), (sheet.widths_of, EVERY), (sheet.weight_of, EVERY), (sheet.ports_of, EVERY),
    (sheet.line_words, EVERY, {"y": 3, "z": 7}, {"x": 1, "k": 1, "b": 0}),
    (sheet.sheet_beat, COUNT, {"n": 3}, {"up": 0}), (sheet.sheet_run, COUNT, {"n": 3}, ({"up": 0},)),
    (sheet.sheet_run, COUNT, {"n": 3}, ()), (lay.lay, EVERY), (lay.bits_of, {"x": 2}, {"x": 1}),
    (lay.words_of, {"x": 1}, {"x.0": 1}), (lay.lay_fault, COUNT, lay.lay(COUNT), {"n": 3}, {"up": 0}),
    (adders.plan_of, "ladder", 6), (adders.is_plan, 3, PLAN), (adders.row_of, 3, PLAN, 4),
    (adders.plan_depth, 3, PLAN), (adders.carries_by, 3, PLAN, 5, 3, 1), (adders.plan_paper, 3, PLAN),
    (adders.is_plan_paper, 3, PLAN, (1, 3, 1, 0)), (adders.merged, 3, PLAN), (adders.adder_net, 3, PLAN),
    (adders.picked_net, 3, 2), (adders.compared_net, 3), (shifts.plain_rounds, 3),
    (shifts.moved_by, 4, "right", 2, ROUNDS, 9, 0), (shifts.rounds_paper, 4, "left", 2, ROUNDS[1:]),
    (shifts.is_rounds_paper, 4, "left", 2, ROUNDS[1:], (1, 1)), (shifts.shift_net, 4, "left", 2, ROUNDS),
    (products.worth, ((1,), (0, 1))), (products.heap_behind, ((1, 0), (1,)), (("two", 0),)),
    (products.heap_behind, ((1, 0),), ()), (products.fewest_deeds, (3, 2), 1), (products.low_deeds, (3, 2), 1),
    (products.are_low_deeds, (3,), 1, (("three", 0),)), (products.product_heap, 3, 5, 7),
    (products.product_net, 3, (("two", 1),)), (long.is_long, 4, 2, ("part", 13, 3, 2, 0, 5)),
    (long.long_beat, 4, 2, ("part", 13, 3, 2, 0, 5), None), (long.long_beat, 4, 2, long.IDLE, ("begin", "rest", 1, 2)),
    (long.long_run, 1, 1, (("begin", "rest", 1, 0), None, None)), (long.long_net, 2, 2),
    (tables.is_table, ("x", "y"), TABLE), (tables.table_value, ("x", "y"), TABLE, 3, FILLING),
    (tables.table_value, ("x", "y"), TABLE, 1, FILLING), (tables.table_of, ("y", "x"), HALF),
    (tables.ones, ("x", "y"), TABLE, 3), (tables.least_order, HALF), (tables.is_least_order, HALF, (4, ("x", "y"))),
    (judge.alike_paper, HALF, HALF), (judge.alike_paper, HALF, (HALF[0], (("carry", 0), ("sum", 2)))),
    (judge.is_alike_paper, HALF, HALF, PAPER), (judge.parting_number, HALF, HALF),
    (judge.first_parting, HALF, (HALF[0], (("carry", 0), ("sum", 2)))),
    (judge.is_alike_paper, HALF, (HALF[0], (("carry", 0), ("sum", 2))), ("unlike", FILLING, "carry")),
    (lesser.wire_classes, BOTH), (lesser.are_classes, BOTH, lesser.wire_classes(BOTH)), (lesser.lesser, BOTH),
    (lesser.is_wire_paper, BOTH, *LESSER), (lesser.is_lesser, BOTH, LESSER), (lesser.least_hard, BOTH),
    (lesser.wire_classes, ((("keep", "k", 1, 0), ("keep", "m", 0, 1), ("not", 0)), ())),
    (clocked.done_by, BOTH, (0, 1), ((1,), (0,))), (clocked.done_by, BOTH, (0, 1), ()), (clocked.reached, BOTH),
    (clocked.parting_row, BOTH, (0, 0), (1, 0)), (clocked.is_parting_row, BOTH, (0, 0), (1, 0), ((1,),)),
    (clocked.classes, BOTH), (clocked.machine_of, BOTH), (clocked.clocked, BOTH, BOTH), (clocked.clocked, BOTH, CHANGED),
    (clocked.is_clocked_paper, BOTH, BOTH, clocked.clocked(BOTH, BOTH)),
    (clocked.is_clocked_paper, BOTH, CHANGED, ("apart", ((0,),))),
    (waking.three_beat, BOTH, {"l": 1, "k": None}, {"x": 0}), (waking.three_run, BOTH, ROWS), (waking.known, BOTH, ROWS),
    (waking.unlike_wakings, BOTH, ROWS, "l"), (waking.settled, BOTH, {"x": 1}), (waking.settled, TURNING, {"up": 1}),
    (waking.are_unlike_wakings, BOTH, ROWS, "l", waking.unlike_wakings(BOTH, ROWS, "l")),
    (waking.is_settled_paper, BOTH, {"x": 1}, waking.settled(BOTH, {"x": 1})), (waking.three_run, BOTH, ()),
    (shapes.fields_of, 37887), (shapes.word_of, 9, 1, 7, 63), (shapes.given_by, shapes.Shape(4, 2), 37887),
    (single.single_beat, SHAPE, SINGLE, 37887, 3, 1), (single.single_beat, SHAPE, {**SINGLE, "ended": 2}, 0, 0, 0),
    (single.single_of, Plain(SHAPE, (0,), pc=3, allowed=True)), (single.single_sheet, SHAPE), (single.single_net, SHAPE),
    (single.single_fault, SHAPE, single.single_net(SHAPE), SINGLE, 37887, 3, 1), (pipe.first_pipe, SHAPE),
    (pipe.is_pipe, SHAPE, PIPE), (pipe.reads_of, SHAPE, 37887), (pipe.is_long_word, 37887, 2), (pipe.asked, SHAPE, PIPE),
    (pipe.pipe_beat, SHAPE, PIPE, 37887, CHOICE), (pipe.pipe_beat, SHAPE, PIPE, 37887, (3, 0, 9, 0)),
    (meaning.is_kept, SHAPE, PIPE, MEMORY, (0, 1)), (meaning.rank, SHAPE, PIPE), (meaning.drained, SHAPE, PIPE, MEMORY),
    (meaning.square, SHAPE, WAITING, MEMORY, (0, 1), (3, 1, 0)), (gates.core_ports, SHAPE), (gates.core_sheet, SHAPE),
    (meaning.square, SHAPE, WAITING, MEMORY, (0, 1), (3, 0, 0)), (gates.core_net, SHAPE),
    (gates.has_core_names, SHAPE, gates.core_net(SHAPE)),
    (gates.net_beat, SHAPE, gates.core_net(SHAPE), PIPE, 37887, CHOICE),
    (gates.beat_fault, SHAPE, gates.core_net(SHAPE), PIPE, 37887, CHOICE),
    (lines.is_kept_near, NEAR, MEMORY), (lines.near_words, NEAR, MEMORY), (lines.near_beat, NEAR, MEMORY, ASKS[1], (1, 0)),
    (lines.near_beat, BACK, MEMORY, None, (1, 0)), (lines.near_beat, NEAR, MEMORY, ASKS[0], (0, 0)),
    (lines.near_beat, NEAR, MEMORY, ("write", 4, 9), (0, 0)), (lines.near_run, NEAR, MEMORY, ASKS, ROW),
    (lines.near_run, BACK, MEMORY, ASKS, ROW[:3]), (lines.cleaned, NEAR, MEMORY), (misses.misses, NEAR, ASKS, (0, 1)),
    (misses.best_victims, NEAR, ASKS), (near_alike.parting_asks, NEAR, SWAPPED), (near_alike.parting_asks, NEAR, NEAR),
    (near_alike.is_parting, NEAR, SWAPPED, near_alike.parting_asks(NEAR, SWAPPED)),
    (counts.record, *RUN, ((1, 1, 0), (2, 1, 0), (3, 1, 1), (3, 0, 0)) * 3), (counts.counted, *RUN, ((1, 0, 0), (0, 0, 0), (1, 0, 3))),
    (counts.choices_for, *RUN, ((1, 0, 0), (0, 0, 0), (1, 0, 3))), (counts.fewest_beats, *RUN, 3), (counts.most_beats, *RUN, 3, 2),
    (steps.write_step, 37887), (steps.read_step, "set 1 -1"),
    (assemble.far_lot, SHAPE, LINES), (assemble.does_fit, SHAPE, LINES, (2,)), (assemble.far_reasons, SHAPE, LINES),
    (assemble.are_far_reasons, SHAPE, LINES, (2,)), (assemble.assemble, WIDE, LINES), (assemble.label_places, SHAPE, LINES),
    (assemble.assemble, SHAPE, (7, ("label", "a"), ("under", 1, 0, "a"), ("place", 1, "a"))),
    (formulas.formula_height, FORMULA), (formulas.formula_order, FORMULA), (formulas.full_tree, FORMULA),
    (formulas.is_formula_order, FORMULA, 2, formulas.formula_order(FORMULA)), (formulas.formula_steps, WIDE, FORMULA),
    (formulas.is_full_tree, FORMULA, 2, formulas.full_tree(FORMULA)), (formulas.formula_steps, WIDE, FORMULA[2]),
    *((broken.broken, BOTH, index, bit) for index in range(4) for bit in (0, 1)), (broken.unrolled, BOTH, 3),
    (broken.does_show, BOTH, 1, 0, ((1,), (0,))), (broken.break_paper, BOTH, 1, 0, 2), (broken.break_paper, BOTH, 2, 1, 1),
    (broken.break_paper, (BOTH[0], ()), 0, 0, 2), (broken.tests, BOTH, 2), (broken.are_tests, BOTH, 2, broken.tests(BOTH, 2)),
    (broken.is_break_paper, BOTH, 1, 0, 2, broken.break_paper(BOTH, 1, 0, 2)),
    (computers.told_history, *RUN, (), 5), (computers.bells_of, COMPUTER), (computers.most_waits, COMPUTER),
    (log.log_text, boards.Board(*RUN, lines.Near(4, 1))), (log.read_log, log.log_text(boards.Board(*RUN, lines.Near(4, 2)))),
)


class Whole(int):
    pass


class Text(str):
    pass


class Row(tuple):
    pass


def derived(value):
    """The same value, made of types derived from Python's own ones, its dicts in another order."""
    if isinstance(value, tuple):
        return Row(derived(member) for member in value)
    if isinstance(value, dict):
        table = collections.defaultdict(int)
        for key in reversed(list(value)):
            table[derived(key)] = derived(value[key])
        return table
    if isinstance(value, str):
        return Text(value)
    return Whole(value) if type(value) is int else value


class ConventionsTest(unittest.TestCase):
    def test_own_types(self):
        for function, *args in CALLS:
            check_own_kinds(self, function(*args))

    def test_own_types_of_derived_ones(self):
        for function, *args in CALLS:
            result = function(*[derived(arg) for arg in args])
            self.assertTrue(alike(result, function(*args)), (function.__name__, args, result))
        carried = words.carries(Whole(4), Whole(6), Whole(3), first=Whole(1))
        self.assertTrue(alike(carried, words.carries(4, 6, 3, first=1)))
        with self.assertRaises(Refused) as caught:
            net.arranged(derived(RING), Row())
        self.assertTrue(alike(caught.exception.reason, ("ring", (0, 1))))

    def test_own_types_in_objects(self):
        told = {"pc": 3, "registers": (0, 7), "memory": MEMORY, "saved": 4, "ended": ("fault", "word"), "outputs": (1, 2)}
        plain = Plain(derived(SHAPE), derived((5, 6)), allowed=True, **{name: derived(told[name]) for name in told})
        check_own_kinds(self, plain)
        check_own_kinds(self, meaning.meaning(SHAPE, derived(PIPE), derived(MEMORY), derived((5, 6))))
        check_own_kinds(self, single.plain_of(SHAPE, derived(SINGLE), derived((5, 6)), derived(MEMORY)))
        running = Plain(SHAPE, derived((37379, 61953, 61440)), memory=derived(MEMORY))
        check_own_kinds(self, running.step(Whole(1)).run(Whole(5), derived((1, 2))))
        check_own_kinds(self, tuple(running.trace(Whole(5), derived((1, 2)))))
        near = lines.Near(Whole(4), Whole(2), derived(NEAR.lines), derived(BACK.turn))
        check_own_kinds(self, near)
        for ask, choice in ((ASKS[0], (1, 0)), (None, (1, 1)), (None, (1, 1))):
            near, memory, answer = lines.near_beat(near, derived(MEMORY), derived(ask), derived(choice))
            check_own_kinds(self, (near, memory, answer))

    def test_own_types_in_computers_and_boards(self):
        near = lines.Near(4, 1, derived(((True, 4, True, 1, 0), (False, 0, False, 0, 0))))
        for gates in (False, True):
            computer = computers.Computer(*derived(RUN), near, gates=gates, waking=derived(PIPE))
            check_own_kinds(self, computer)
            for choice in derived(BEATS):
                computer = computer.beat(choice)
                check_own_kinds(self, (computer, computer.words(), computer.meaning()))
            check_own_kinds(self, computer.run(derived(BEATS)))
            guided = computer.guided(derived({3: 1, 1: 3}), derived(tuple(choice[1:] for choice in BEATS)))
            check_own_kinds(self, (guided, guided.words(), guided.meaning(), computers.bells_of(guided), computers.most_waits(guided)))
            board = boards.Board(*derived(RUN), near, gates=gates)
            for function, args, named in (
                    (board.go, (BEATS[:3],), {}), (board.stop, (("word", 2, 3),), {}), (board.stop, (("field", "pc", 3),), {}),
                    (board.back, (), {"beats": 2}), (board.unstop, (("field", "pc", 3),), {}), (board.go, (BEATS,), {"steps": 2}),
                    (board.back, (), {}), (board.undo, (), {"calls": 1}), (board.writer, (1,), {})):
                named = {name: derived(named[name]) for name in named}
                check_own_kinds(self, (function(*derived(args), **named), board, board.twin(), log.log_text(board)))
            told, many = log.read_log(Text(log.log_text(board)))
            self.assertTrue(alike((told, many), (board, len(log.log_text(board)))))
            check_own_kinds(self, (told, many))

    def test_own_types_of_what_boards_keep_in_errors(self):
        board = boards.Board(*RUN, lines.Near(4, 1))
        for function, args, named, right in (
                (board.unstop, (("place", 3),), {}, UnknownName(("place", 3))), (board.back, (), {"beats": 7}, NothingToUndo(7)),
                (board.undo, (), {"calls": 7}, NothingToUndo(7)), (assemble.assemble, (SHAPE, (("label", "a"),)), {}, Refused(("empty",))),
                (formulas.formula_steps, (SHAPE, FORMULA), {}, Refused(("registers", 2))),
                (computers.told_history, (*RUN, (3,), 5), {}, Refused(("bell", 3)))):
            error = error_of(function, *derived(args), **{name: derived(named[name]) for name in named})
            self.assertTrue(type(error) is type(right) and alike(tuple(vars(error).values()), tuple(vars(right).values())), error)

    def test_own_types_of_what_errors_keep(self):
        for function, args, name, right in (
                (words.is_word, (Whole(33), 0), "given", 33), (words.wrapped, (4, Whole(10 ** 70)), "given", 10 ** 70),
                (adders.plan_of, (Text("column"), 3), "asked", "column"), (shapes.fields_of, (Whole(-1),), "given", -1),
                (waking.unlike_wakings, (BOTH, ROWS, Text("m")), "asked", "m"), (pipe.is_long_word, (0, Whole(65536)),
                                                                              "given", 65536),
                (shifts.plain_rounds, (True,), "given", True), (shifts.plain_rounds, ([1],), "given", [1]),
                (lines.Near, (Whole(3), 1), "given", 3), (lines.Near, (Whole(4), Whole(3)), "given", 3),
                (steps.write_step, (Whole(-1),), "given", -1), (counts.fewest_beats, (*RUN, Whole(0)), "given", 0)):
            self.assertTrue(alike(getattr(error_of(function, *args), name), right), function.__name__)

    def test_arguments_stay(self):
        for function, *args in CALLS:
            before = copy.deepcopy(args)
            function(*args)
            self.assertTrue(alike(before, args), function.__name__)
            some = derived(tuple(args))
            function(*some)
            self.assertTrue(alike(some, derived(tuple(args))), function.__name__)

    def test_equal_calls_and_own_dicts(self):
        for function, *args in CALLS:
            one, other = function(*args), function(*args)
            self.assertTrue(alike(one, other), function.__name__)
            passed = [id(arg) for arg in dicts_in(tuple(args))]
            for table in dicts_in(one):
                self.assertNotIn(id(table), passed, function.__name__)
                self.assertNotIn(id(table), [id(again) for again in dicts_in(other)])


def dicts_in(value):
    """All dicts within a value of tuples and dicts."""
    if isinstance(value, tuple):
        return [table for member in value for table in dicts_in(member)]
    return [value] if isinstance(value, dict) else []


if __name__ == "__main__":
    unittest.main()
