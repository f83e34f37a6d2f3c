"""The names, arguments and homes of the functions of the interface."""

import importlib
import inspect
import unittest

INTERFACE = {
    "truebeat.base.words": (
        "is_word(width, value)", "bits_of_word(width, word)", "word_of_bits(bits)", "wrapped(width, number)",
        "signed(width, word)", "carries(width, one, other, *, first=0)", "added(width, one, other, *, first=0)",
        "lessened(width, one, other)", "is_below(width, one, other)", "is_under(width, one, other)",
        "multiplied(width, one, other)", "divided(width, one, other)", "moved_left(width, word, places)",
        "moved_right(width, word, places)", "cut(width, word, low, many)", "put_together(parts)",
        "widened(width, word, wider)", "lengthened(width, word, wider)"),
    "truebeat.nets.net": (
        "is_net(value)", "is_lot(value)", "order_of(cells)", "is_order(cells, value)", "least_ring(cells)",
        "is_ring(cells, value)", "arranged(cells, outputs)", "inputs_of(net)", "keepers_of(net)", "depths(net)",
        "longest_way(net)", "is_longest_way(net, value)"),
    "truebeat.nets.walk": (
        "first_state(net, lanes, wake)", "worked(net, lanes, state, inputs)", "beat(net, lanes, state, inputs)",
        "run(net, lanes, state, rows)", "lane_of(values, number)", "joined(rows)"),
    "truebeat.sheets.sheet": (
        "is_sheet(value)", "widths_of(sheet)", "weight_of(sheet)", "ports_of(sheet)",
        "line_words(sheet, state, inputs)", "sheet_beat(sheet, state, inputs)", "sheet_run(sheet, state, rows)"),
    "truebeat.sheets.lay": (
        "lay(sheet)", "bits_of(widths, words)", "words_of(widths, bits)", "lay_fault(sheet, net, state, inputs)"),
    "truebeat.parts.adders": (
        "plan_of(kind, size)", "is_plan(size, value)", "row_of(size, plan, piece)", "plan_depth(size, plan)",
        "carries_by(size, plan, one, other, carry)", "plan_paper(size, plan)", "is_plan_paper(size, plan, value)",
        "merged(size, plan)", "adder_net(size, plan)", "picked_net(size, block)", "compared_net(size)"),
    "truebeat.parts.shifts": (
        "plain_rounds(many)", "moved_by(size, side, many, rounds, word, amount)",
        "rounds_paper(size, side, many, rounds)", "is_rounds_paper(size, side, many, rounds, value)",
        "shift_net(size, side, many, rounds)"),
    "truebeat.parts.products": (
        "worth(heap)", "heap_behind(heap, deeds)", "fewest_deeds(heights, most)", "low_deeds(heights, most)",
        "are_low_deeds(heights, most, value)", "product_heap(size, one, other)", "product_net(size, deeds)"),
    "truebeat.parts.long": (
        "is_long(width, step, value)", "long_beat(width, step, state, ask)", "long_run(width, step, asks)",
        "long_net(width, step)"),
    "truebeat.judge.tables": (
        "is_table(names, value)", "table_value(names, table, node, filling)", "table_of(names, net)",
        "ones(names, table, node)", "least_order(net)", "is_least_order(net, value)"),
    "truebeat.judge.alike": (
        "alike_paper(one, other)", "is_alike_paper(one, other, value)", "parting_number(one, other)",
        "first_parting(one, other)"),
    "truebeat.judge.lesser": (
        "are_classes(net, value)", "wire_classes(net)", "is_wire_paper(net, other, value)", "lesser(net)",
        "is_lesser(net, value)", "least_hard(net)"),
    "truebeat.judge.clocked": (
        "done_by(net, state, row)", "reached(net)", "parting_row(net, first, second)",
        "is_parting_row(net, first, second, value)", "classes(net)", "machine_of(net)", "clocked(one, other)",
        "is_clocked_paper(one, other, value)"),
    "truebeat.judge.waking": (
        "three_beat(net, state, inputs)", "three_run(net, rows)", "known(net, rows)",
        "unlike_wakings(net, rows, name)", "are_unlike_wakings(net, rows, name, value)", "settled(net, inputs)",
        "is_settled_paper(net, inputs, value)"),
    "truebeat.plain.shapes": ("fields_of(word)", "word_of(op, a, b, c)", "given_by(shape, word)"),
    "truebeat.core.single": (
        "single_beat(shape, state, word, data, bell, *, reset=0)", "plain_of(shape, state, program, memory)",
        "single_of(plain)", "single_sheet(shape)", "single_net(shape)",
        "single_fault(shape, net, state, word, data, bell, *, reset=0)"),
    "truebeat.core.pipe": (
        "first_pipe(shape)", "is_pipe(shape, value)", "reads_of(shape, word)", "is_long_word(word, two)",
        "asked(shape, state)", "pipe_beat(shape, state, word, choice, *, reset=0)"),
    "truebeat.core.meaning": (
        "meaning(shape, state, memory, program)", "is_kept(shape, state, memory, program)", "rank(shape, state)",
        "drained(shape, state, memory)", "square(shape, state, memory, program, choice)"),
    "truebeat.core.gates": (
        "core_ports(shape)", "core_sheet(shape)", "core_net(shape)", "has_core_names(shape, value)",
        "net_beat(shape, net, state, word, choice, *, reset=0)", "beat_fault(shape, net, state, word, choice, *, reset=0)"),
    "truebeat.near.lines": (
        "is_kept_near(near, memory)", "near_words(near, memory)", "near_beat(near, memory, ask, choice)",
        "near_run(near, memory, asks, choices)", "cleaned(near, memory)"),
    "truebeat.near.misses": ("misses(near, asks, victims)", "best_victims(near, asks)"),
    "truebeat.near.alike": ("parting_asks(one, other)", "is_parting(one, other, value)"),
    "truebeat.core.counts": (
        "record(shape, program, memory, choices)", "counted(shape, program, memory, told)",
        "choices_for(shape, program, memory, told)", "fewest_beats(shape, program, memory, steps)",
        "most_beats(shape, program, memory, steps, wait)"),
    "truebeat.text.steps": ("write_step(word)", "read_step(text)"),
    "truebeat.text.assemble": (
        "far_lot(shape, lines)", "does_fit(shape, lines, value)", "far_reasons(shape, lines)",
        "are_far_reasons(shape, lines, value)", "assemble(shape, lines)", "label_places(shape, lines)"),
    "truebeat.text.formulas": (
        "formula_height(formula)", "formula_order(formula)", "is_formula_order(formula, most, value)", "full_tree(formula)",
        "is_full_tree(formula, height, value)", "formula_steps(shape, formula)"),
    "truebeat.judge.broken": (
        "broken(net, index, bit)", "unrolled(net, beats)", "does_show(net, index, bit, row)",
        "break_paper(net, index, bit, beats)", "is_break_paper(net, index, bit, beats, value)", "tests(net, beats)",
        "are_tests(net, beats, value)"),
    "truebeat.whole.computer": (
        "told_history(shape, program, memory, bells, most)", "bells_of(computer)", "most_waits(computer)"),
    "truebeat.house.log": ("log_text(board)", "read_log(text)"),
}
CLASSES = {
    "truebeat.plain.shapes": {"Shape(width, registers)": ("width", "registers")},
    "truebeat.plain.machine": {
        "Plain(shape, program, *, pc=0, registers=None, memory=None, saved=0, allowed=False, ended=None, outputs=())": (
            "shape", "program", "pc", "registers", "memory", "saved", "allowed", "ended", "outputs", "word", "step(bell=0)",
            "run(steps, bells=())", "trace(steps, bells=())")},
    "truebeat.near.lines": {"Near(width, sets, lines=None, turn=None)": ("width", "sets", "lines", "turn")},
    "truebeat.whole.computer": {
        "Computer(shape, program, memory, near, *, gates=False, waking=None)": (
            "__len__", "shape", "program", "gates", "memory", "near", "state", "beats", "steps", "waits", "outputs", "history",
            "words()", "beat(choice)", "run(choices)", "guided(table, choices)", "meaning()")},
    "truebeat.house.board": {
        "Board(shape, program, memory, near, *, gates=False)": (
            "__len__", "__contains__", "computer", "trail", "stops", "calls", "go(choices, *, steps=None)", "back(*, beats=1)",
            "stop(stop)", "unstop(stop)", "undo(*, calls=1)", "writer(number)", "twin()")},
}


class InterfaceTest(unittest.TestCase):
    def test_functions(self):
        for module, told in INTERFACE.items():
            for words in told:
                name = words.split("(")[0]
                function = getattr(importlib.import_module(module), name)
                self.assertTrue(inspect.isfunction(function), name)
                self.assertEqual(function.__module__, module, name)
                self.assertEqual(name + str(inspect.signature(function)), words)

    def test_classes(self):
        for module, told in CLASSES.items():
            for words, members in told.items():
                name = words.split("(")[0]
                found = getattr(importlib.import_module(module), name)
                self.assertTrue(inspect.isclass(found), name)
                self.assertEqual(found.__module__, module, name)
                self.assertEqual(name + str(inspect.signature(found)), words)
                for member in ("__eq__", "__str__", *members):
                    self.check_member(found, member)

    def check_member(self, found, member):
        """A property has its name alone, a method its parameters, too."""
        name = member.split("(")[0]
        self.assertIn(name, vars(found))
        if "(" in member:
            words = name + str(inspect.signature(vars(found)[name])).replace("(self, ", "(").replace("(self)", "()")
            self.assertEqual(words, member)
        elif not name.startswith("__"):
            self.assertIsInstance(vars(found)[name], property)


if __name__ == "__main__":
    unittest.main()
