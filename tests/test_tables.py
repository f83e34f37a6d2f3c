"""Tables of decisions [7.1] to [7.3]."""

import itertools
import unittest

from nets_made import fillings, functions, names_of, parts, some_still
from support import check_judge, check_own_kinds, check_refused, expect, numbers_but, odd_but, random_source
from truebeat.errors import InvalidInputs, InvalidNet, InvalidNumber, InvalidOperation, InvalidPaper, TooMany
from truebeat.judge import tables as module
from truebeat.judge.tables import is_least_order, is_table, least_order, ones, table_of, table_value

NAMES = ("b", "a", "c")
TABLE = ((2, 0, 1), (1, 2, 0), (1, 1, 2), (0, 3, 4), (0, 0, 1))
TWELVE = tuple(f"n{at}" for at in range(12))
WRONG_NAMES = [value for value in odd_but() if value not in ((), ("x",))] + [
    TWELVE + ("m",), ("a", "a"), ("A",), ("a", ""), ["a"], ("a", 1), ("a" * 25,), "a", ("9",)]
WRONG_TABLES = [
    ((0, 0, 0),), ((0, 1, 1),), ((3, 0, 1),), ((-1, 0, 1),), ((0, 0, 2),), ((0, 2, 1),), ((0, 0, 1), (0, 0, 1)),
    ((1, 0, 1), (1, 0, 2)), ((0, 0, 1), (1, 2, 1)), ((0, 0, 1), (0, 0, 2)), ((1, 0, 1), (0, 2, 2)), ((0, 0),),
    ((0, 0, 1, 1),), [(0, 0, 1)], ([0, 0, 1],), ((0, False, 1),), ((0, 0, True),), ((True, 0, 1),), ((0, None, 1),),
    ((0, 0, 10 ** 70),), (0, 0, 1), ((2, 0, 1), (1, 0, 2), (2, 0, 1)), ((1, 0, 1), (0, 2, 4)), ((2, 0, 1), (1, 4, 2)),
]
ADDING = ((("in", "a"), ("in", "b"), ("in", "c"), ("xor", 0, 1), ("xor", 3, 2), ("one",), ("and", 0, 1), ("not", 5)), ())
KEEPING = ((("keep", "k", 0, 0),), ())


def great_table():
    """So many rows for twelve names that one more is too many, and one more."""
    rows, nodes = [], [0, 1]
    for at in (11, 10, 9, 8):
        pairs = [(at, low, high) for low, high in itertools.product(nodes, nodes) if low != high]
        rows += pairs
        nodes = list(range(len(rows) + 2))
    return tuple(rows[:20000]), tuple(rows[:20001])


def small_tables(many, rows):
    """All tables of at most so many rows for so many names, and as many tuples that are none."""
    nodes = range(rows + 2)
    every = list(itertools.product(range(many), nodes, nodes))
    for size in range(rows + 1):
        yield from itertools.product(every, repeat=size)


def is_table_by_words(many, value):
    for index, (at, low, high) in enumerate(value):
        if low == high or (at, low, high) in value[:index]:
            return False
        for node in (low, high):
            if node > 1 and (node - 2 >= index or value[node - 2][0] <= at):
                return False
    return True


def value_by_words(table, node, bits):
    if node < 2:
        return node
    at, low, high = table[node - 2]
    return value_by_words(table, high if bits[at] else low, bits)


def orders(net):
    """The number of parts in each sequence of the names of the inputs."""
    names = sorted(names_of(net, "in"))
    return {order: len(parts(functions(net, order), len(order))) for order in itertools.permutations(names)}


class TablesTest(unittest.TestCase):
    def test_constants(self):
        self.assertEqual((module.MAX_ASKED, module.MAX_ROWS, module.MAX_ORDERED), (12, 20000, 8))

    def test_all_small_tables(self):
        rights = 0
        for value in small_tables(2, 3):
            right = is_table_by_words(2, value)
            self.assertIs(is_table(("x", "y"), value), right, value)
            rights += right
            if right:
                self.check_nodes(("x", "y"), value)
        self.assertGreater(rights, 20)

    def check_nodes(self, names, table):
        """Values as by the words; two nodes have equal ones exactly if they are one node [7.2]."""
        met = {}
        for node in range(len(table) + 2):
            told = tuple(table_value(names, table, node, filling) for filling in fillings(names))
            self.assertEqual(told, tuple(value_by_words(table, node, tuple(filling.values()))
                                         for filling in fillings(names)))
            self.assertNotIn(told, met)
            met[told] = node
            self.assertEqual(ones(names, table, node), sum(told))

    def test_a_table(self):
        self.check_nodes(NAMES, TABLE)
        self.check_nodes((), ())
        check_judge(self, is_table, (NAMES,), [TABLE, (), ((2, 1, 0),)], WRONG_TABLES)
        check_judge(self, is_table, ((),), [()], [((0, 0, 1),)])

    def test_great_tables(self):
        good, wrong = great_table()
        self.assertEqual(len(wrong), 20001)
        self.assertIs(is_table(TWELVE, good), True)
        self.assertIs(is_table(TWELVE, wrong), False)
        self.assertEqual(ones(TWELVE, good, 2), 2048)
        expect(self, InvalidPaper, None, ones, TWELVE, wrong, 2)

    def test_errors(self):
        filling = {"a": 0, "b": 1, "c": 1}
        names = (0, InvalidOperation, WRONG_NAMES)
        tables = (1, InvalidPaper, [value for value in odd_but() if value != ()] + WRONG_TABLES)
        nodes = (2, InvalidNumber, numbers_but(0, 6))
        wrong = odd_but() + [{"a": 0, "b": 1}, {**filling, "d": 0}, {**filling, "c": True}, {**filling, "c": 2},
                             {"a": 0, "b": 1, "d": 1}, tuple(filling.items()), {**filling, "c": None}]
        check_refused(self, table_value, (NAMES, TABLE, 5, filling), [names, tables, nodes, (3, InvalidInputs, wrong)])
        check_refused(self, ones, (NAMES, TABLE, 5), [names, tables, nodes])
        for value in WRONG_NAMES:
            expect(self, InvalidOperation, None, is_table, value, ())


class ShortTablesTest(unittest.TestCase):
    def check_short(self, names, net):
        table, nodes = table_of(names, net)
        check_own_kinds(self, (table, nodes))
        self.assertIs(is_table(names, table), True)
        self.assertEqual(len(nodes), len(net[0]))
        right = functions(net, names)
        for row, node in zip(right, nodes):
            self.assertEqual(row, tuple(value_by_words(table, node, tuple(filling.values()))
                                        for filling in fillings(names)))
        self.assertEqual(len(table), len(parts(right, len(names))))

    def test_small_nets_in_each_sequence(self):
        source = random_source(1)
        for turn in range(60):
            inputs = NAMES[:source.randrange(4)]
            net = some_still(source, inputs, source.randrange(9))
            for names in itertools.permutations(inputs):
                self.check_short(names, net)
            self.check_short(inputs + ("d", "e")[:turn % 3], net)
            self.check_short(("d",) + inputs, net)

    def test_greater_nets(self):
        source = random_source(2)
        for inputs in (6, 8):
            self.check_short(TWELVE[:inputs], some_still(source, TWELVE[:inputs], 40))
        self.check_short(TWELVE, some_still(source, TWELVE, 8))
        self.check_short((), ((("one",), ("not", 0)), ()))
        self.check_short(TWELVE, ((), ()))

    def test_too_many_parts(self):
        source = random_source(3)
        net = some_still(source, TWELVE, 2000, words=("xor", "pick", "and", "xor"))
        low, high = 0, len(net[0])
        while high - low > 1:
            middle = (low + high) // 2
            try:
                self.assertLessEqual(len(table_of(TWELVE, (net[0][:middle], ()))[0]), 20000)
                low = middle
            except TooMany as error:
                self.assertEqual(error.limit, 20000)
                high = middle
        self.assertLess(high, len(net[0]))
        self.assertEqual(len(parts(functions((net[0][:low], ()), TWELVE), 12)),
                         len(table_of(TWELVE, (net[0][:low], ()))[0]))
        self.assertGreater(len(parts(functions((net[0][:high], ()), TWELVE), 12)), 20000)
        expect(self, TooMany, 20000, table_of, TWELVE, net)

    def test_errors(self):
        nets = odd_but() + [ADDING[0], KEEPING, ((("not", 0),), ())]
        check_refused(self, table_of, (NAMES, ADDING), [(0, InvalidOperation, WRONG_NAMES), (1, InvalidNet, nets)])
        expect(self, InvalidOperation, None, table_of, ("a", "b"), ADDING)
        expect(self, InvalidNet, None, table_of, (), ((("in", "a"), ("keep", "k", 0, 0)), ()))
        check_refused(self, least_order, (ADDING,), [(0, InvalidNet, nets)])
        for value in nets:
            expect(self, InvalidNet, None, is_least_order, value, (0, ()))


class OrdersTest(unittest.TestCase):
    def test_against_all_sequences(self):
        source = random_source(4)
        unlike = 0
        for turn in range(40):
            inputs = ("d", *NAMES)[:source.randrange(5)]
            net = some_still(source, inputs, source.randrange(3, 12), words=("and", "or", "pick", "not"))
            counts = orders(net)
            least = min(counts.values())
            told = least_order(net)
            check_own_kinds(self, told)
            self.assertEqual(told[0], least)
            self.assertEqual(counts[told[1]], least)
            unlike += len(set(counts.values())) > 1
            for order, many in counts.items():
                self.assertIs(is_least_order(net, (least, order)), many == least)
                self.assertIs(is_least_order(net, (many, order)), many == least)
                self.assertIs(is_least_order(net, (least - 1, order)), False)
        self.assertGreater(unlike, 5)

    def test_rows_hang_on_the_names_ahead_alone(self):
        net = some_still(random_source(5), ("a", "b", "c", "d"), 10)
        asked = {}
        for names in itertools.permutations(("a", "b", "c", "d")):
            table, _ = table_of(names, net)
            for at, name in enumerate(names):
                many = sum(1 for row in table if row[0] == at)
                self.assertEqual(asked.setdefault((name, frozenset(names[:at])), many), many)

    def test_judge(self):
        # x and y belong together, and so do u and v; otherwise more has to be remembered.
        cells = (("in", "x"), ("in", "u"), ("in", "y"), ("in", "v"), ("and", 0, 2), ("and", 1, 3), ("or", 4, 5))
        least, order = least_order((cells, ()))
        self.assertEqual(least, min(orders((cells, ())).values()))
        right = (least, ("x", "y", "u", "v"))
        check_judge(self, is_least_order, ((cells, ()),), [(least, order), right],
                    [(least, ("x", "u", "y", "v")), (least + 1, ("x", "u", "y", "v")), (least, ("x", "y", "u")),
                     (least, ("x", "y", "u", "u")), (least, ["x", "y", "u", "v"]), [least, order], (str(least), order),
                     (least, ("x", "y", "u", "w")), (least, order, ()), (least, None), (least, (0, 1, 2, 3)),
                     (least, ("x", "y", "u", "v", "w"))])
        check_judge(self, is_least_order, (((("one",),), ()),), [(0, ())], [(False, ()), (0, None), (1, ())])
        check_judge(self, is_least_order, (((("in", "x"),), ()),), [(1, ("x",))], [(True, ("x",)), (1, ())])

    def test_eight_and_nine_inputs(self):
        names = [f"i{at}" for at in range(9)]
        cells = tuple(("in", name) for name in names[:8])
        pairs = cells + (("and", 0, 4), ("and", 1, 5), ("and", 2, 6), ("and", 3, 7), ("or", 8, 9), ("or", 12, 10),
                         ("or", 13, 11))
        least, order = least_order((pairs, ()))
        self.assertEqual(least, len(table_of(order, (pairs, ()))[0]))
        self.assertLess(least, len(table_of(tuple(names[:8]), (pairs, ()))[0]))
        self.assertIs(is_least_order((pairs, ()), (least, order)), True)
        wide = (tuple(("in", name) for name in names), ())
        expect(self, TooMany, 8, least_order, wide)
        expect(self, TooMany, 8, is_least_order, wide, (9, tuple(names)))
        source = random_source(6)
        for _ in range(2):
            net = some_still(source, names[:8], 30)
            least, order = least_order(net)
            self.assertEqual(least, len(table_of(order, net)[0]))
            for _ in range(20):
                self.assertLessEqual(least, len(table_of(tuple(source.sample(names[:8], 8)), net)[0]))


if __name__ == "__main__":
    unittest.main()
