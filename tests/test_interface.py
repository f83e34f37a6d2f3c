"""The names, arguments and homes of the functions of the interface."""

import importlib
import inspect
import unittest

INTERFACE = {
    "truebeat.base.words": (
        "is_word(width, value)", "bits_of_word(width, word)", "word_of_bits(bits)", "wrapped(width, number)",
        "signed(width, word)", "carries(width, one, other, *, first=0)", "added(width, one, other, *, first=0)",
        "lessened(width, one, other)", "is_below(width, one, other)", "is_under(width, one, other)",
        "multiplied(width, one, other)", "divided(width, one, other)", "moved_left(width, word, places)",
        "moved_right(width, word, places)", "cut(width, word, low, many)", "put_together(parts)",
        "widened(width, word, wider)", "lengthened(width, word, wider)"),
    "truebeat.nets.net": (
        "is_net(value)", "is_lot(value)", "order_of(cells)", "is_order(cells, value)", "least_ring(cells)",
        "is_ring(cells, value)", "arranged(cells, outputs)", "inputs_of(net)", "keepers_of(net)", "depths(net)",
        "longest_way(net)", "is_longest_way(net, value)"),
    "truebeat.nets.walk": (
        "first_state(net, lanes, wake)", "worked(net, lanes, state, inputs)", "beat(net, lanes, state, inputs)",
        "run(net, lanes, state, rows)", "lane_of(values, number)", "joined(rows)"),
    "truebeat.sheets.sheet": (
        "is_sheet(value)", "widths_of(sheet)", "weight_of(sheet)", "ports_of(sheet)",
        "line_words(sheet, state, inputs)", "sheet_beat(sheet, state, inputs)", "sheet_run(sheet, state, rows)"),
    "truebeat.sheets.lay": (
        "lay(sheet)", "bits_of(widths, words)", "words_of(widths, bits)", "lay_fault(sheet, net, state, inputs)"),
    "truebeat.parts.adders": (
        "plan_of(kind, size)", "is_plan(size, value)", "row_of(size, plan, piece)", "plan_depth(size, plan)",
        "carries_by(size, plan, one, other, carry)", "plan_paper(size, plan)", "is_plan_paper(size, plan, value)",
        "merged(size, plan)", "adder_net(size, plan)", "picked_net(size, block)", "compared_net(size)"),
    "truebeat.parts.shifts": (
        "plain_rounds(many)", "moved_by(size, side, many, rounds, word, amount)",
        "rounds_paper(size, side, many, rounds)", "is_rounds_paper(size, side, many, rounds, value)",
        "shift_net(size, side, many, rounds)"),
    "truebeat.parts.products": (
        "worth(heap)", "heap_behind(heap, deeds)", "fewest_deeds(heights, most)", "low_deeds(heights, most)",
        "are_low_deeds(heights, most, value)", "product_heap(size, one, other)", "product_net(size, deeds)"),
    "truebeat.parts.long": (
        "is_long(width, step, value)", "long_beat(width, step, state, ask)", "long_run(width, step, asks)",
        "long_net(width, step)"),
}


class InterfaceTest(unittest.TestCase):
    def test_functions(self):
        for module, told in INTERFACE.items():
            for words in told:
                name = words.split("(")[0]
                function = getattr(importlib.import_module(module), name)
                self.assertTrue(inspect.isfunction(function), name)
                self.assertEqual(function.__module__, module, name)
                self.assertEqual(name + str(inspect.signature(function)), words)


if __name__ == "__main__":
    unittest.main()
