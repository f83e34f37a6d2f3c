"""Formulas [17.6] to [17.9]."""

import itertools
import unittest

from machines_made import SHAPES, ahead_of_all, plain_step, step_word, store
from support import alike, check_own_kinds, check_refused, expect, numbers_but, odd_but, random_source
from test_machine import WRONG_SHAPES
from truebeat.core.pipe import reads_of
from truebeat.errors import InvalidNumber, InvalidOperation, InvalidShape, Refused, TooMany
from truebeat.plain.machine import Plain
from truebeat.plain.shapes import Shape, given_by
from truebeat.text import formulas as module
from truebeat.text.formulas import (
    formula_height, formula_order, formula_steps, full_tree, is_formula_order, is_full_tree)

NAMES = "add sub and or xor less left right times part rest".split()
ONE, OTHER = ("number", 1), ("cell", 2)


def two(one, other, name="add"):
    return "two", name, one, other


def leaning(many, side):
    """A formula of so many nodes, an odd number, that leans to one side."""
    found = ONE
    for _ in range(many // 2):
        found = two(found, OTHER) if side == 0 else two(OTHER, found)
    return found


def full(height):
    return ONE if height == 1 else two(full(height - 1), full(height - 1))


def some_formula(source, leaves):
    if leaves == 1:
        return source.choice((("number", source.choice((0, 1, -1, 255, -256, source.randrange(-256, 256)))), ("cell", source.randrange(32))))
    left = source.choice((1, leaves - 1, leaves // 2, source.randrange(1, leaves)))
    return two(some_formula(source, left), some_formula(source, leaves - left), source.choice(NAMES))


def paths_of(formula, path=()):
    """The paths of all nodes, with the nodes."""
    found = {path: formula}
    if formula[0] == "two":
        found.update(paths_of(formula[2], path + (0,)))
        found.update(paths_of(formula[3], path + (1,)))
    return found


def need_by_words(nodes, order):
    """The greatest number of values held, counted afresh at each moment, `None` if the value is no order."""
    if sorted(order) != sorted(nodes):
        return None
    need = 0
    for many in range(1, len(order) + 1):
        met = order[:many]
        if any(nodes[path][0] == "two" and not {path + (0,), path + (1,)} <= set(met[:at]) for at, path in enumerate(met)):
            return None
        need = max(need, sum(1 for path in met if path == () or path[:-1] not in met))
    return need


def height_by_words(formula):
    if formula[0] != "two":
        return 1
    one, other = height_by_words(formula[2]), height_by_words(formula[3])
    return one + 1 if one == other else max(one, other)


def all_trees(nodes, height, ahead=()):
    """All full trees of a height whose path begins with another one."""
    for path in nodes:
        if path[:len(ahead)] == ahead:
            if height == 1:
                yield (path,)
            elif nodes[path][0] == "two":
                rights = list(all_trees(nodes, height - 1, path + (1,)))
                for left in all_trees(nodes, height - 1, path + (0,)):
                    for right in rights:
                        yield path, left, right


def value_by_words(shape, memory, formula):
    """The value, by the steps of the tests' own machine; `None` for a division by 0."""
    fit = 1 << shape.width
    if formula[0] == "number":
        return formula[1] % fit
    if formula[0] == "cell":
        return memory.get(formula[1] % fit, 0)
    one, other = (value_by_words(shape, memory, side) for side in formula[2:])
    if one is None or other is None:
        return None
    op = NAMES.index(formula[1])
    word = step_word(op, 1, 1, 2) if op < 8 else step_word(15, 1, 2, op - 4)
    m, _ = plain_step(Shape(shape.width, 4), (word,), {**ahead_of_all(Shape(shape.width, 4)), "held": [0, one, other, 0]})
    return None if m["ended"] else m["held"][1]


def small_formulas(leaves):
    """All forms of so many leaves."""
    if leaves == 1:
        return [ONE]
    return [two(one, other) for left in range(1, leaves) for one in small_formulas(left) for other in small_formulas(leaves - left)]


FORMULA_WRONG = odd_but() + [
    ("number", 256), ("number", -257), ("number", True), ("number",), ("number", 1, 2), ("cell", 32), ("cell", -1), ("cell", False), ("cell", None),
    ["number", 1], ("two", "add", ONE), ("two", "plus", ONE, OTHER), ("two", "set", ONE, OTHER), ("two", None, ONE, OTHER), ("two", "add", ONE, None),
    ("two", "add", ONE, ("cell", 32)), ("two", "add", ONE, OTHER, ONE), ("one", "add", ONE, OTHER), ("two", "add", [1], OTHER), leaning(61, 0),
    leaning(61, 1), two(full(5), full(5)), ("number", 10 ** 70), ("number", "1"), (("number", 1),)]


class HeightTest(unittest.TestCase):
    def test_constant(self):
        self.assertEqual(module.MOST_NODES, 60)

    def test_all_small_formulas(self):
        """[17.8] against a plain trial of all orders, and of all full trees, of all forms of up to four leaves."""
        for leaves in (1, 2, 3, 4):
            for formula in small_formulas(leaves):
                nodes = paths_of(formula)
                needs = [need_by_words(nodes, order) for order in itertools.permutations(nodes)] if leaves < 4 else [
                    need_by_words(nodes, order) for order in self.all_orders(nodes)]
                height = formula_height(formula)
                self.assertEqual(height, min(need for need in needs if need is not None))
                self.assertEqual(height, height_by_words(formula))
                self.assertTrue(list(all_trees(nodes, height)))
                self.assertFalse(list(all_trees(nodes, height + 1)))
                if leaves < 4:
                    for order, need in zip(itertools.permutations(nodes), needs):
                        for most in (1, 2, 3, 60):
                            self.assertIs(is_formula_order(formula, most, order), need is not None and need <= most)

    def all_orders(self, nodes):
        """All orders, one node behind the other."""
        rows = [()]
        for _ in nodes:
            rows = [row + (path,) for row in rows for path in nodes if path not in row
                    and (nodes[path][0] != "two" or (path + (0,) in row and path + (1,) in row))]
        return rows

    def test_drawn(self):
        source = random_source(1)
        heights = {}
        for _ in range(300):
            formula = some_formula(source, source.randrange(1, 31))
            nodes, height = paths_of(formula), formula_height(formula)
            heights[height] = heights.get(height, 0) + 1
            self.assertTrue(alike(height, height_by_words(formula)))
            order = formula_order(formula)
            check_own_kinds(self, (order, full_tree(formula)))
            self.assertEqual(need_by_words(nodes, order), height)
            self.assertIs(is_formula_order(formula, height, order), True)
            if height > 1:
                self.assertIs(is_formula_order(formula, height - 1, order), False)
            if len(nodes) < 20:
                self.assertIn(full_tree(formula), list(all_trees(nodes, height)))
            self.assertIs(is_full_tree(formula, height, full_tree(formula)), True)
            self.check_some_orders(source, formula, nodes)
        self.assertEqual(sorted(heights), [1, 2, 3, 4, 5][:len(heights)])
        self.assertGreaterEqual(len(heights), 4)

    def check_some_orders(self, source, formula, nodes):
        """Orders with any side first, and such with a change."""
        def some_order(path):
            if nodes[path][0] != "two":
                return [path]
            sides = [some_order(path + (side,)) for side in source.sample((0, 1), 2)]
            return sides[0] + sides[1] + [path]

        order = some_order(())
        if source.randrange(2):
            one, other = source.randrange(len(order)), source.randrange(len(order))
            order[one], order[other] = order[other], order[one]
        order = tuple(order)
        need = need_by_words(nodes, order)
        for most in range(1, 9):
            self.assertIs(is_formula_order(formula, most, order), need is not None and need <= most)

    def test_bounds(self):
        for formula, height in ((ONE, 1), (leaning(59, 0), 2), (leaning(59, 1), 2), (full(5), 5), (two(ONE, OTHER), 2), (full(3), 3)):
            self.assertEqual(formula_height(formula), height)
            self.assertEqual(len(formula_order(formula)), len(paths_of(formula)))
        two_sides = two(full(4), full(4))
        self.assertEqual((len(paths_of(two_sides)), formula_height(two_sides)), (31, 5))
        even = two(leaning(29, 0), leaning(29, 1))
        self.assertEqual((len(paths_of(even)), formula_height(even)), (59, 3))
        # A formula has an odd number of nodes, so 59 are the most.
        expect(self, InvalidOperation, None, formula_height, two(leaning(29, 0), leaning(31, 1)))

    def test_orders_judged(self):
        formula = two(two(ONE, OTHER, "part"), OTHER)
        right = ((0, 0), (0, 1), (0,), (1,), ())
        self.assertEqual([is_formula_order(formula, most, right) for most in (1, 2, 60)], [False, True, True])
        late = ((1,), (0, 0), (0, 1), (0,), ())
        self.assertEqual([is_formula_order(formula, most, late) for most in (2, 3)], [False, True])
        for value in odd_but() + [right[:-1], (*right, ()), right[::-1], [*right], ((0, 0), (0, 1), (0,), (1,), (1,)),
                                  ((0, 0), (0, True), (0,), (1,), ()), ((0, 0), [0, 1], (0,), (1,), ()), ((0, 0), (0, 2), (0,), (1,), ()),
                                  ((0, 0), (0,), (0, 1), (1,), ()), ((False, 0), (0, 1), (0,), (1,), ()), ((0, 0), (0, 1), (0,), (1,), None)]:
            self.assertIs(is_formula_order(formula, 60, value), False, value)

    def test_trees_judged(self):
        source = random_source(2)
        for _ in range(60):
            formula = some_formula(source, source.randrange(1, 7))
            nodes = paths_of(formula)
            for height in (1, 2, 3, 4):
                trees = list(all_trees(nodes, height))
                for tree in trees[:200]:
                    self.assertIs(is_full_tree(formula, height, tree), True)
                    self.assertIs(is_full_tree(formula, height + 1, tree), False)
                    self.assertIs(is_full_tree(formula, 60, tree), False)
        formula = two(two(ONE, OTHER), two(ONE, ONE))
        right = ((), ((0,), ((0, 0),), ((0, 1),)), ((1,), ((1, 0),), ((1, 1),)))
        self.assertIs(is_full_tree(formula, 3, right), True)
        self.assertEqual(full_tree(formula), right)
        self.assertIs(is_full_tree(formula, 2, ((), ((0, 1),), ((1,),))), True)
        for height, value in [(3, value) for value in odd_but()] + [
                (3, (right[0], right[2], right[1])), (3, right[:2]), (3, (*right, ())), (3, [*right]), (2, ((), ((0,),), ((0, 1),))),
                (2, ((), ((1,),), ((0,),))), (1, ((0, 0, 0),)), (1, ((True,),)), (1, ((2,),)), (1, ((),) * 2), (1, ()), (1, ([],)), (1, (None,)),
                (2, ((0, 0), ((0, 0),), ((0, 0),))), (2, ((), ((),), ((1,),))), (3, ((), right[1], right[1])),
                (2, ((False,), ((0, 0),), ((0, 1),)))]:
            self.assertIs(is_full_tree(formula, height, value), False, value)

    def test_not_true(self):
        """[17.9]: a full tree of the greatest height need not begin at the root; more nodes are not more height."""
        formula = two(full(3), ONE)
        self.assertEqual(full_tree(formula)[0], (0,))
        self.assertNotIn((), [tree[0] for tree in all_trees(paths_of(formula), 3)])
        self.assertTrue(formula_height(leaning(21, 0)) < formula_height(full(4)))

    def test_errors(self):
        wrong = [(0, InvalidOperation, FORMULA_WRONG)]
        good = two(ONE, OTHER)
        for function in (formula_height, formula_order, full_tree):
            check_refused(self, function, (good,), wrong)
        for function in (is_formula_order, is_full_tree):
            check_refused(self, function, (good, 2, ()), [*wrong, (1, InvalidNumber, numbers_but(1, 60))])


class StepsTest(unittest.TestCase):
    def check_steps(self, shape, formula, held, memory):
        """Run the steps; what they read and give is just that of registers up to the height."""
        height, many = formula_height(formula), len(paths_of(formula))
        words = formula_steps(shape, formula)
        check_own_kinds(self, words)
        self.assertEqual(len(words), many)
        for word in words:
            self.assertIn(given_by(shape, word), range(1, height + 1))
            self.assertTrue(all(number <= height for number in reads_of(shape, word)))
        plain = Plain(shape, words, registers=held, memory=memory).run(many)
        right = value_by_words(shape, memory, formula)
        if right is None:
            self.assertEqual(plain.ended, ("fault", "divide"))
        else:
            self.assertIsNone(plain.ended)
            self.assertEqual((plain.pc, plain.registers[1]), (many, right), formula)
        self.assertEqual(plain.registers[height + 1:], held[height + 1:])
        self.assertEqual((plain.memory, plain.outputs, plain.saved, plain.allowed), (memory, (), 0, False))
        return right

    def test_drawn(self):
        source = random_source(3)
        faults = 0
        for turn in range(1500):
            shape = SHAPES[turn % len(SHAPES)]
            formula = some_formula(source, source.randrange(1, 12 if shape.width > 4 else 8))
            held = (0,) + tuple(source.randrange(1 << shape.width) for _ in range(shape.registers - 1))
            memory = {}
            for place in range(min(32, 1 << shape.width)):
                memory = store(memory, place, source.choice((0, 1, 2, source.randrange(1 << shape.width))))
            if formula_height(formula) > shape.registers - 1:
                expect(self, Refused, ("registers", formula_height(formula)), formula_steps, shape, formula)
            else:
                faults += self.check_steps(shape, formula, held, memory) is None
        self.assertTrue(50 < faults < 1000, faults)

    def test_each_name(self):
        """Each name with a higher side first and last, whose values are told apart."""
        shape = Shape(8, 4)
        pair = two(("number", 100), ("number", -3))
        for name in NAMES:
            for formula in (two(("number", 201), ("cell", 3), name), two(pair, ("cell", 3), name), two(("cell", 3), pair, name),
                            two(pair, two(("cell", 3), ("number", 4)), name)):
                self.check_steps(shape, formula, (0, 9, 8, 7), {3: 5})
        self.assertEqual(self.check_steps(shape, two(ONE, ("number", 0), "part"), (0, 9, 8, 7), {}), None)
        self.assertEqual(self.check_steps(shape, two(ONE, ("number", 0), "rest"), (0, 9, 8, 7), {}), None)

    def test_bounds(self):
        great = Shape(16, 8)
        for formula in (leaning(59, 0), leaning(59, 1), full(5)):
            self.check_steps(great, formula, (0,) * 8, {2: 7})
        self.assertEqual(self.check_steps(Shape(4, 2), ("number", -256), (0, 5), {}), 0)
        self.assertEqual(self.check_steps(Shape(4, 2), ("cell", 31), (0, 5), {15: 3}), 3)
        expect(self, Refused, ("registers", 2), formula_steps, Shape(4, 2), two(ONE, OTHER))
        expect(self, Refused, ("registers", 5), formula_steps, Shape(4, 4), full(5))
        expect(self, Refused, ("registers", 4), formula_steps, Shape(4, 4), two(full(3), full(4)))
        self.check_steps(Shape(4, 4), leaning(15, 1), (0,) * 4, {})
        expect(self, TooMany, 15, formula_steps, Shape(4, 4), leaning(17, 1))
        self.check_steps(Shape(5, 4), leaning(31, 0), (0,) * 4, {})
        expect(self, TooMany, 31, formula_steps, Shape(5, 4), leaning(33, 0))
        self.assertEqual(formula_steps(great, ("number", -1)), (step_word(9, 1) | 511,))

    def test_errors(self):
        check_refused(self, formula_steps, (Shape(4, 4), two(ONE, OTHER)), [(0, InvalidShape, WRONG_SHAPES), (1, InvalidOperation, FORMULA_WRONG)])


if __name__ == "__main__":
    unittest.main()
