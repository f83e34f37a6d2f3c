"""Sheets [3.1], [3.2]."""

import unittest

from sheets_made import COUNT, every_kind, plain_weight, plain_widths, plain_words
from support import check_judge, check_own_kinds, check_refused, expect, odd_but, random_source
from truebeat.errors import InvalidInputs, InvalidSheet, InvalidState
from truebeat.sheets import sheet as module
from truebeat.sheets.sheet import is_sheet, line_words, ports_of, sheet_beat, sheet_run, weight_of, widths_of

# Lines behind ("in", "x", 4), ("in", "y", 4), ("in", "b", 1), with their widths and weights.
AHEAD = (("in", "x", 4), ("in", "y", 4), ("in", "b", 1))
GOOD = (
    (("in", "a", 1), 1, 1), (("in", "a" * 20, 32), 32, 32), (("in", "a_9", 7), 7, 7), (("told", 1, 0), 1, 2),
    (("told", 32, 2 ** 32 - 1), 32, 2), (("cut", 0, 0, 4), 4, 0), (("cut", 0, 3, 1), 1, 0), (("cut", 2, 0, 1), 1, 0),
    (("join", 0), 4, 0), (("join", 0, 2, 1), 9, 0), (("join",) + (0,) * 8, 32, 0), (("join",) + (2,) * 32, 32, 0),
    (("wide", 0, 4), 4, 2), (("wide", 0, 32), 32, 2), (("long", 0, 4), 4, 2), (("long", 2, 32), 32, 2),
    (("not", 0), 4, 4), (("and", 0, 1), 4, 4), (("or", 0, 0), 4, 4), (("xor", 2, 2), 1, 1), (("add", 0, 1), 4, 12),
    (("less_by", 1, 0), 4, 12), (("same", 0, 1), 1, 16), (("below", 0, 1), 1, 16), (("under", 2, 2), 1, 4),
    (("any", 0), 1, 4), (("all", 2), 1, 1), (("pick", 2, 0, 1), 4, 4), (("pick", 2, 2, 2), 1, 1),
    (("choose", 0, (1,)), 4, 12), (("choose", 2, (0, 1, 0)), 4, 25), (("choose", 0, (2,) * 64), 1, 132),
    (("left", 0, 2), 4, 5), (("right", 0, 1), 4, 20), (("right", 2, 0), 1, 8), (("times", 0, 1), 4, 32),
    (("part", 0, 1), 4, 100), (("rest", 0, 1), 4, 100), (("keep", "k", 4, 0, 0), 4, 4),
    (("keep", "k", 4, 15, 3), 4, 4), (("keep", "k", 1, None, 2), 1, 1),
)
BAD = (
    ("in", "a"), ("in", "a", 0), ("in", "a", 33), ("in", "a", True), ("in", "a" * 21, 1), ("in", "a.b", 1),
    ("in", "A", 1), ("in", "", 1), ("in", "x", 1), ("in", 1, 1), ("in", "a", 1, 1), ("in", "1a", 1), ("in", None, 1),
    ("told", 4), ("told", 4, 16), ("told", 0, 0), ("told", 33, 0), ("told", 4, -1), ("told", 4, False),
    ("cut", 0, 0), ("cut", 0, 0, 0), ("cut", 0, 0, 5), ("cut", 0, 1, 4), ("cut", 0, 4, 1), ("cut", 0, -1, 1),
    ("cut", 3, 0, 1), ("cut", 0, False, 1), ("cut", 0, 0, True), ("cut", 0, 0, 1, 1), ("join",), ("join", 3),
    ("join", 0, None), ("join", (0, 1)), ("join",) + (0,) * 9, ("join",) + (2,) * 33, ("wide", 0), ("wide", 0, 3),
    ("wide", 0, 33), ("long", 0, 3), ("long", 0, "4"), ("long", 3, 4), ("not",), ("not", 3), ("not", 0, 0),
    ("not", True), ("and", 0), ("and", 0, 2), ("and", 0, 1, 1), ("or", 0, 3), ("xor", 0, -1), ("add", 0, 2),
    ("less_by", 2, 0), ("less_by", 0), ("same", 0, 2), ("same", 0), ("below", 0, 1, 2), ("under", 0, None), ("any",),
    ("any", 0, 1), ("all", 3), ("pick", 0, 0, 1), ("pick", 2, 0, 2), ("pick", 2, 0), ("pick", 2, 0, 3),
    ("pick", True, 0, 1), ("pick", 3, 0, 1), ("pick", -1, 0, 1), ("pick", None, 0, 1), ("choose", 0, ()),
    ("choose", 0, (1, 2)), ("choose", 0, (0, 3)), ("choose", 0, 1), ("choose", 3, (0,)), ("choose", 0, [0, 1]),
    ("choose", 0, (2,) * 65), ("choose", 0), ("choose", 0, (0,), 1), ("choose", 0, (False, 0)), ("left", 0),
    ("left", 0, 3), ("left", 0, 1, 1), ("right", 3, 0), ("right", None, 0), ("times", 0, 2), ("part", 0, 2),
    ("rest", 0), ("rest", 0, 3), ("keep", "k", 4, 0), ("keep", "k", 4, 16, 0), ("keep", "k", 4, -1, 0),
    ("keep", "k", 4, False, 0), ("keep", "k", 4, 0, 2), ("keep", "k", 4, 0, 4), ("keep", "k", 4, 0, None),
    ("keep", "k", 4, 0, True), ("keep", "k", 0, 0, 0), ("keep", "x", 4, 0, 0), ("keep", "k.0", 4, 0, 0),
    ("keep", "k", 4, 0, 0, 0), ("keep", "k", True, 0, 2), (), None, "not", ("nor", 0, 1), ["not", 0], (["not"], 0),
    (0,), ((),), 3, ("NOT", 0), ({},), (None, 0),
)
SHEETS = odd_but() + [COUNT[0], (COUNT[0], ()) + ((),), (COUNT[0], None), ((), ()), (COUNT[0], (("now", 4),))]


class SheetsTest(unittest.TestCase):
    def test_the_example(self):
        self.assertEqual(
            [is_sheet(COUNT), widths_of(COUNT), weight_of(COUNT), ports_of(COUNT)],
            [True, (4, 1, 4, 4), 19, ({"up": 1}, {"n": 4}, {"next": 4, "now": 4})])

    def test_constants(self):
        self.assertEqual((module.MAX_LINES, module.MAX_WEIGHT), (1000, 5900))

    def test_the_table_of_lines(self):
        for line, width, weight in GOOD:
            sheet = (AHEAD + (line,), ())
            self.assertIs(is_sheet(sheet), True, line)
            self.assertEqual(widths_of(sheet), (4, 4, 1, width), line)
            self.assertEqual(weight_of(sheet), 9 + weight, line)
        for line in BAD:
            self.assertIs(is_sheet((AHEAD + (line,), ())), False, line)
            expect(self, InvalidSheet, None, widths_of, (AHEAD + (line,), ()))

    def test_judge(self):
        check_judge(self, is_sheet, (), [COUNT, (COUNT[0], ()), (COUNT[0], (("now", 0), ("n", 0)))],
                    [*SHEETS[len(odd_but()):], [*COUNT], (COUNT[0], [("now", 0)]), (COUNT[0], (("now", True),)),
                     (COUNT[0], (("a", 0), ("a", 1))), (COUNT[0], (("a.b", 0),)), (COUNT[0], (("a" * 21, 0),)),
                     (COUNT[0], (("a", 0, 0),)), (COUNT[0], (["a", 0],)), (list(COUNT[0]), ()),
                     ((("keep", "n", 4, 0, 1), ("in", "n", 4)), ()), ((("in", "n", 4), ("in", "n", 2)), ())])

    def test_every_kind(self):
        for wide, key in ((1, 1), (2, 3), (5, 4), (8, 2), (16, 5), (31, 31), (32, 6)):
            sheet = every_kind(wide, key)
            self.assertTrue(is_sheet(sheet), (wide, key))
            self.assertEqual(widths_of(sheet), tuple(plain_widths(sheet[0])))
            self.assertEqual(weight_of(sheet), plain_weight(sheet[0]))
            check_own_kinds(self, ports_of(sheet))

    def test_part_and_rest_count_once(self):
        ahead = (("in", "x", 4), ("in", "y", 4), ("part", 0, 1))
        self.assertEqual(weight_of((ahead, ())), 108)
        for line in (("rest", 0, 1), ("part", 0, 1)):
            self.assertEqual(weight_of((ahead + (line,), ())), 108)
        self.assertEqual(weight_of((ahead + (("rest", 1, 0),), ())), 208)
        self.assertEqual(weight_of((ahead + (("rest", 1, 0), ("rest", 0, 1), ("part", 1, 0)), ())), 208)
        self.assertEqual(weight_of(((*ahead[:2], ("rest", 0, 0), ("times", 0, 1), ("part", 0, 0)), ())), 140)

    def test_bounds(self):
        self.assertTrue(is_sheet(((("told", 1, 0),), ())))
        self.assertTrue(is_sheet(((("in", "x", 4),) + (("cut", 0, 0, 4),) * 999, ())))
        self.assertFalse(is_sheet(((("in", "x", 4),) + (("cut", 0, 0, 4),) * 1000, ())))
        for kind in (lambda n: ("in", f"x{n}", 32), lambda n: ("keep", f"x{n}", 32, None, n)):
            lines = tuple(kind(n) for n in range(12))
            last = kind(12)
            self.assertTrue(is_sheet((lines + ((*last[:2], 16, *last[3:]),), ())))
            self.assertFalse(is_sheet((lines + ((*last[:2], 17, *last[3:]),), ())))
        lines = (("in", "x", 32), ("in", "y", 16), ("in", "b", 1))
        outputs = tuple((f"o{n}", 0) for n in range(12))
        self.assertTrue(is_sheet((lines, outputs + (("y", 1),))))
        self.assertFalse(is_sheet((lines, outputs + (("y", 1), ("b", 2)))))
        self.assertTrue(is_sheet((lines, tuple((f"o{n}", 2) for n in range(400)))))
        self.assertFalse(is_sheet((lines, tuple((f"o{n}", 2) for n in range(401)))))

    def test_greatest_weight(self):
        lines = (("in", "x", 32), ("in", "b", 1)) + (("times", 0, 0),) * 2 + (("add", 0, 0),) * 18
        lines += (("not", 0),) + (("not", 1),) * 11
        self.assertEqual(plain_weight(lines), 5900)
        self.assertTrue(is_sheet((lines, ())))
        self.assertEqual(weight_of((lines, ())), 5900)
        self.assertFalse(is_sheet((lines + (("not", 1),), ())))
        self.assertTrue(is_sheet((lines + (("cut", 0, 0, 9),), ())))
        halves = (("in", "x", 32), ("in", "y", 32), ("part", 0, 1), ("rest", 0, 1))
        self.assertEqual(weight_of((halves, ())), 5344)
        self.assertFalse(is_sheet((halves + (("rest", 1, 0),), ())))

    def test_wrong_sheets(self):
        for function in (widths_of, weight_of, ports_of):
            check_refused(self, function, (COUNT,), [(0, InvalidSheet, SHEETS)])


class SheetBeatsTest(unittest.TestCase):
    def test_words_of_every_kind(self):
        source = random_source(4)
        for wide, key in ((1, 1), (2, 3), (5, 4), (8, 2), (16, 5), (31, 31), (32, 6)):
            sheet = every_kind(wide, key)
            inputs, keepers, _ = ports_of(sheet)
            for _ in range(60):
                state = {name: some_word(source, keepers[name]) for name in keepers}
                given = {name: some_word(source, inputs[name]) for name in inputs}
                words = line_words(sheet, state, given)
                self.assertEqual(words, tuple(plain_words(sheet[0], state, given)))
                told, behind = sheet_beat(sheet, state, given)
                self.assertEqual(told, {name: words[index] for name, index in sheet[1]})
                self.assertEqual(behind, {line[1]: words[line[4]] for line in sheet[0] if line[0] == "keep"})
                check_own_kinds(self, (words, told, behind))

    def test_arithmetic_at_its_edges(self):
        lines = [("in", "x", 4), ("in", "y", 4)] + [
            (word, 0, 1) for word in ("add", "less_by", "times", "part", "rest", "same", "below", "under")]
        sheet = (tuple(lines), ())
        for x in range(16):
            for y in range(16):
                given = {"x": x, "y": y}
                self.assertEqual(line_words(sheet, {}, given), tuple(plain_words(lines, {}, given)))
        self.assertEqual(line_words(sheet, {}, {"x": 11, "y": 0})[5:7], (15, 11))
        self.assertEqual(line_words(sheet, {}, {"x": 8, "y": 7})[8:], (0, 1))

    def test_moves_by_great_words(self):
        sheet = ((("in", "x", 4), ("in", "k", 32), ("left", 0, 1), ("right", 0, 1)), ())
        for key, left, right in ((0, 11, 11), (1, 6, 5), (3, 8, 1), (4, 0, 0), (2 ** 32 - 1, 0, 0)):
            self.assertEqual(line_words(sheet, {}, {"x": 11, "k": key})[2:], (left, right))

    def test_choose_takes_the_last_one_for_greater_words(self):
        sheet = ((("in", "k", 3), ("told", 4, 3), ("told", 4, 5), ("told", 4, 9), ("choose", 0, (1, 2, 3))), ())
        self.assertEqual([line_words(sheet, {}, {"k": k})[4] for k in range(8)], [3, 5, 9, 9, 9, 9, 9, 9])

    def test_runs(self):
        rows = ({"up": 1}, {"up": 0}, {"up": 1})
        told, last = sheet_run(COUNT, {"n": 14}, rows)
        self.assertEqual(told, ({"next": 15, "now": 14}, {"next": 15, "now": 15}, {"next": 0, "now": 15}))
        self.assertEqual(last, {"n": 0})
        check_own_kinds(self, (told, last))
        one, middle = sheet_run(COUNT, {"n": 14}, rows[:1])
        then, end = sheet_run(COUNT, middle, rows[1:])
        self.assertEqual((one + then, end), (told, last))
        state = {"n": 3}
        told, last = sheet_run(COUNT, state, ())
        self.assertEqual((told, last), ((), state))
        self.assertIsNot(last, state)
        self.assertEqual(sheet_run(COUNT, {"n": 0}, ({"up": 1},) * 400)[1], {"n": 0})
        expect(self, InvalidInputs, None, sheet_run, COUNT, {"n": 0}, ({"up": 1},) * 401)

    def test_errors(self):
        states = odd_but() + [{"n": 16}, {"n": -1}, {"n": True}, {"n": None}, {"m": 1}, {"n": 1, "m": 1}]
        inputs = odd_but() + [{"up": 2}, {"up": -1}, {"up": True}, {"up": "1"}, {"n": 1}, {"up": 1, "n": 1}]
        ahead = [(0, InvalidSheet, SHEETS), (1, InvalidState, states)]
        for function in (line_words, sheet_beat):
            check_refused(self, function, (COUNT, {"n": 15}, {"up": 1}), [*ahead, (2, InvalidInputs, inputs)])
        rows = [value for value in odd_but() if value != ()] + [[{"up": 1}], ({"up": 1}, {"up": 2}), ({},), ((),)]
        check_refused(self, sheet_run, (COUNT, {"n": 15}, ({"up": 1},)), [*ahead, (2, InvalidInputs, rows)])


def some_word(source, width):
    """A word that is often at an edge."""
    size = 1 << width
    edges = (0, size - 1, size >> 1, (size >> 1) - 1)
    return source.choice((*edges, source.randrange(size), source.randrange(min(6, size))))


if __name__ == "__main__":
    unittest.main()
