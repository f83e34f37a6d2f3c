"""Lots, nets, orders, rings, depths and ways [2.1] to [2.4], [2.7]."""

import itertools
import unittest

from support import check_judge, check_own_kinds, check_refused, expect, odd_but, random_source
from truebeat.errors import InvalidNet, Refused, TooMany
from truebeat.nets import net as module
from truebeat.nets.net import (
    arranged, depths, inputs_of, is_longest_way, is_lot, is_net, is_order, is_ring, keepers_of, least_ring,
    longest_way, order_of)
from truebeat.nets.walk import run

HALF = ((("in", "x"), ("in", "y"), ("xor", 0, 1), ("and", 0, 1)), (("sum", 2), ("carry", 3)))
TURNING = ((("keep", "k", 0, 2), ("in", "up"), ("xor", 0, 1)), (("now", 0),))
GOOD_CELLS = (
    ("in", "a"), ("in", "z9_."), ("in", "a" * 24), ("one",), ("not", 0), ("and", 0, 0), ("or", 0, 0), ("xor", 0, 0),
    ("pick", 0, 0, 0), ("keep", "k", 0, 0), ("keep", "k", 1, 0), ("keep", "k", None, 0),
)
BAD_CELLS = (
    ("in",), ("in", "a", 0), ("in", ""), ("in", "a" * 25), ("in", "9a"), ("in", "_a"), ("in", ".a"), ("in", "A"),
    ("in", "aB"), ("in", "a b"), ("in", "a\n"), ("in", "a-"), ("in", 1), ("in", None), ("in", ("a",)), ("one", 0),
    ("not",), ("not", 0, 0), ("not", 1), ("not", -1), ("not", False), ("not", "0"), ("not", None), ("and", 0),
    ("and", 0, 0, 0), ("and", 0, True), ("and", 0, 10 ** 70), ("nand", 0, 0), ("pick", 0, 0), ("pick", 0, 0, 0, 0),
    ("pick", 0, 0, 1), ("keep", "k", 0), ("keep", "k", 0, 0, 0), ("keep", "k", True, 0), ("keep", "k", False, 0),
    ("keep", "k", 2, 0), ("keep", "k", "0", 0), ("keep", "k", 0, 1), ("keep", "k", 0, None), ("keep", "K", 0, 0),
    ("kept", "k", 0, 0),
    ("keep", None, 0, 0), (), None, "one", ["one"], 3, ((),), (("one",),), (0, "in"), ("IN", "a"), ([],), ({},),
)


def some_lot(source, many, loops):
    """A lot of so many cells; without loops each looks at lower indices alone."""
    cells = []
    for index in range(many):
        reach = many if loops else index
        word = source.choice(("in", "one", "not", "and", "or", "xor", "pick", "keep")) if reach else "in"
        looks = [source.randrange(reach) for _ in range(3)] if reach else []
        if word == "in":
            cells.append(("in", f"i{index}"))
        elif word == "keep":
            cells.append(("keep", f"k{index}", source.choice((0, 1, None)), source.randrange(many)))
        else:
            cells.append((word, *looks[:{"one": 0, "not": 1, "pick": 3}.get(word, 2)]))
    return tuple(cells)


def looks(cell):
    return cell[1:] if cell[0] not in ("in", "keep") else ()


def all_rings(cells):
    """All rings of a small lot, in no told sequence."""
    return [ring for size in range(1, len(cells) + 1) for ring in itertools.permutations(range(len(cells)), size)
            if ring[0] == min(ring) and all(b in looks(cells[a]) for a, b in zip(ring, ring[1:] + ring[:1]))]


class LotsTest(unittest.TestCase):
    def test_constants(self):
        self.assertEqual((module.MAX_CELLS, module.MAX_NAMED, module.MAX_LOOSE), (6000, 400, 300))

    def test_cells(self):
        for cell in GOOD_CELLS:
            self.assertIs(is_lot((cell,)), True, cell)
        for cell in BAD_CELLS:
            self.assertIs(is_lot((cell,)), False, cell)
            self.assertIs(is_net(((cell,), ())), False, cell)

    def test_lots(self):
        check_judge(self, is_lot, (), [(), (("one",),), HALF[0], (("not", 1), ("not", 0)), (("not", 0),)],
                    [list(HALF[0]), HALF, (("not", 2), ("one",)), (("in", "a"), ("in", "a")),
                     (("in", "a"), ("keep", "a", 0, 0)), (("keep", "a", 0, 0), ("keep", "a", 1, 1))])

    def test_edges_of_lots(self):
        self.assertTrue(is_lot((("one",),) * 6000))
        self.assertFalse(is_lot((("one",),) * 6001))
        self.assertTrue(is_net(((("one",),) + (("not", 0),) * 5999, ())))
        for kind in (lambda n: ("in", f"x.{n}"), lambda n: ("keep", f"x.{n}", None, 0)):
            cells = tuple(kind(n) for n in range(401))
            self.assertTrue(is_lot(cells[:400]))
            self.assertFalse(is_lot(cells))
        both = tuple(("in", f"x{n}") for n in range(400)) + tuple(("keep", f"k{n}", 0, n) for n in range(400))
        self.assertTrue(is_lot(both))

    def test_nets(self):
        check_judge(self, is_net, (), [((), ()), HALF, TURNING, (HALF[0], ()), (HALF[0], (("x", 0), ("y", 0)))],
                    [HALF[0], (HALF[0], None), [HALF[0], ()], (HALF[0], [("s", 0)]), (HALF[0], (("s", 4),)),
                     (HALF[0], (("s", 0), ("s", 1))), (HALF[0], (("s",),)), (HALF[0], (("S", 0),)), (*HALF, ()),
                     (HALF[0], (("s", True),)), (HALF[0], (["s", 0],)), ((("not", 1), ("one",)), ()),
                     ((("not", 0),), ()), ((), (("s", 0),)), ((("one",), ("and", 0, 1)), ())])
        outputs = tuple((f"o{n}", 0) for n in range(401))
        self.assertTrue(is_net((HALF[0], outputs[:400])))
        self.assertFalse(is_net((HALF[0], outputs)))
        self.assertTrue(is_net(((("keep", "k", 0, 1), ("one",)), (("a" * 24, 0),))))
        self.assertFalse(is_net(((("one",),), (("a" * 25, 0),))))

    def test_names(self):
        self.assertEqual(inputs_of(HALF), ("x", "y"))
        self.assertEqual(keepers_of(HALF), ())
        cells = (("in", "z"), ("keep", "y", 0, 0), ("in", "a"), ("keep", "b", None, 3))
        self.assertEqual((inputs_of((cells, ())), keepers_of((cells, ()))), (("z", "a"), ("y", "b")))
        self.assertEqual(inputs_of(((), ())), ())

    def test_wrong_nets(self):
        wrong = odd_but() + [HALF[0], (HALF[0], (("s", 9),)), ((("not", 0),), ())]
        for function in (inputs_of, keepers_of, depths, longest_way):
            check_refused(self, function, (HALF,), [(0, InvalidNet, wrong)])
        for value in wrong:
            expect(self, InvalidNet, None, is_longest_way, value, ())


class OrdersTest(unittest.TestCase):
    def test_least_index_first(self):
        self.assertEqual(order_of(()), ())
        self.assertEqual(order_of(HALF[0]), (0, 1, 2, 3))
        self.assertEqual(order_of((("not", 2), ("one",), ("one",), ("in", "a"))), (1, 2, 0, 3))
        self.assertEqual(order_of((("and", 3, 3), ("not", 0), ("one",), ("in", "a"))), (2, 3, 0, 1))
        self.assertEqual(order_of((("keep", "k", 0, 1), ("not", 0))), (0, 1))
        self.assertIsNone(order_of((("not", 0),)))
        self.assertIsNone(order_of((("one",), ("not", 2), ("not", 1))))

    def test_orders_against_all_permutations(self):
        source = random_source(3)
        for _ in range(150):
            cells = some_lot(source, source.randint(1, 5), True)
            rights = [order for order in itertools.permutations(range(len(cells)))
                      if all(order.index(at) < order.index(index) for index in order for at in looks(cells[index]))]
            self.assertEqual(order_of(cells), min(rights, default=None))
            self.assertEqual(least_ring(cells) is None, bool(rights))
            for order in itertools.permutations(range(len(cells))):
                self.assertIs(is_order(cells, order), order in rights)

    def test_judge_of_orders(self):
        check_judge(self, is_order, (HALF[0],), [(0, 1, 2, 3), (1, 0, 3, 2)],
                    [(2, 0, 1, 3), (0, 1, 2), (0, 1, 2, 3, 3), (0, 1, 2, 2), [0, 1, 2, 3], (False, True, 2, 3),
                     (0, 1, 2, 4), (0, 1, 2, "3"), (0, 1, 2, -1)])
        check_judge(self, is_order, ((),), [()], [(0,)])
        check_judge(self, is_order, ((("not", 0),),), [], [(0,), (), None])

    def test_wrong_lots(self):
        wrong = [value for value in odd_but() if value != ()] + [HALF, list(HALF[0]), (("not", 1),)]
        for function in (order_of, least_ring):
            check_refused(self, function, (HALF[0],), [(0, InvalidNet, wrong)])
        for value in wrong:
            expect(self, InvalidNet, None, is_order, value, ())
            expect(self, InvalidNet, None, is_ring, value, ())

    def test_a_great_lot(self):
        cells = tuple(("not", index + 1) for index in range(5999)) + (("in", "x"),)
        self.assertEqual(order_of(cells), tuple(range(5999, -1, -1)))
        self.assertTrue(is_order(cells, order_of(cells)))
        self.assertIsNone(least_ring(cells))


class RingsTest(unittest.TestCase):
    def test_small_rings(self):
        self.assertEqual(least_ring((("not", 0),)), (0,))
        self.assertEqual(least_ring((("not", 1), ("not", 0))), (0, 1))
        self.assertIsNone(least_ring(()))
        self.assertIsNone(least_ring((("keep", "k", 0, 1), ("not", 0))))
        # The shortest one, though others begin at lesser indices; of two equally short ones the least tuple.
        self.assertEqual(least_ring((("not", 1), ("not", 2), ("not", 0), ("and", 4, 4), ("or", 3, 0))), (3, 4))
        self.assertEqual(least_ring((("or", 2, 1), ("not", 3), ("not", 3), ("not", 0))), (0, 1, 3))
        self.assertEqual(least_ring((("one",), ("not", 2), ("or", 1, 2))), (2,))

    def test_rings_against_all_rings(self):
        source = random_source(5)
        found = 0
        for _ in range(200):
            cells = some_lot(source, source.randint(1, 6), True)
            rings = all_rings(cells)
            least = min(rings, key=lambda ring: (len(ring), ring), default=None)
            self.assertEqual(least_ring(cells), least)
            self.assertEqual(order_of(cells) is None, least is not None)
            found += least is not None
            for size in range(0, len(cells) + 1):
                for value in itertools.permutations(range(len(cells)), size):
                    self.assertIs(is_ring(cells, value), value in rings)
        self.assertGreater(found, 50)

    def test_judge_of_rings(self):
        cells = (("not", 1), ("and", 2, 0), ("pick", 0, 2, 1))
        check_judge(self, is_ring, (cells,), [(0, 1), (2,), (1, 2), (0, 1, 2)],
                    [(1, 0), (0, 2), (0, 2, 1), (0, 1, 0, 1), [0, 1], (False, 1), (), (0, 1, 2, 3), (3,), (0, None)])

    def test_rings_in_great_lots(self):
        ring = (("not", 1), ("not", 0))
        self.assertEqual(least_ring(ring + (("one",),) * 298), (0, 1))
        expect(self, TooMany, 300, least_ring, ring + (("one",),) * 299)
        self.assertIsNone(least_ring((("one",),) * 301))
        self.assertTrue(is_ring(ring + (("one",),) * 299, (0, 1)))
        self.assertIsNone(order_of(ring + (("one",),) * 299))
        longest = tuple(("not", (index + 1) % 300) for index in range(300))
        self.assertEqual(least_ring(longest), tuple(range(300)))


class ArrangedTest(unittest.TestCase):
    def test_indices_are_led_along(self):
        cells = (("and", 2, 3), ("keep", "k", 1, 0), ("in", "a"), ("not", 1))
        self.assertEqual(
            arranged(cells, (("o", 0), ("n", 3))),
            ((("keep", "k", 1, 3), ("in", "a"), ("not", 0), ("and", 1, 2)), (("o", 3), ("n", 2))))
        self.assertEqual(arranged((), ()), ((), ()))
        self.assertEqual(arranged(*HALF), HALF)

    def test_each_sequence_runs_alike(self):
        source = random_source(8)
        for _ in range(60):
            cells = some_lot(source, 12, False)
            outputs = tuple((f"o{index}", index) for index in range(12))
            shuffled = source.sample(range(12), 12)
            places = {index: place for place, index in enumerate(shuffled)}
            moved = tuple(
                (*cells[index][:3], places[cells[index][3]]) if cells[index][0] == "keep"
                else (cells[index][0], *[places[at] for at in looks(cells[index])]) if cells[index][0] != "in"
                else cells[index] for index in shuffled)
            one = arranged(cells, outputs)
            other = arranged(moved, tuple((name, places[index]) for name, index in outputs))
            self.assertTrue(is_net(one) and is_net(other))
            check_own_kinds(self, other)
            state = {name: source.randrange(256) for name in keepers_of(one)}
            rows = tuple({name: source.randrange(256) for name in inputs_of(one)} for _ in range(5))
            self.assertEqual(run(one, 8, state, rows), run(other, 8, state, rows))

    def test_errors(self):
        lots = [value for value in odd_but() if value != ()] + [HALF, (("not", 1),)]
        outputs = [value for value in odd_but() if value != ()] + [(("s", 4),), (("s", 0), ("s", 0)), (("s", True),)]
        check_refused(self, arranged, HALF, [(0, InvalidNet, lots), (1, InvalidNet, outputs)])
        ring = (("not", 1), ("or", 0, 1), ("one",))
        expect(self, Refused, ("ring", (1,)), arranged, ring, ())
        expect(self, Refused, ("ring", (0, 1)), arranged, (("not", 1), ("not", 0)), (("s", 1),))
        expect(self, InvalidNet, None, arranged, ring, (("s", 3),))
        expect(self, TooMany, 300, arranged, ring + (("one",),) * 298, ())
        expect(self, InvalidNet, None, arranged, ring + (("one",),) * 298, (("s", -1),))
        self.assertEqual(len(arranged((("not", 300),) + (("one",),) * 300, ())[0]), 301)


class DepthsTest(unittest.TestCase):
    def test_depths(self):
        self.assertEqual(depths(((), ())), ())
        self.assertEqual(depths(HALF), (0, 0, 1, 1))
        cells = (("in", "a"), ("one",), ("not", 1), ("pick", 0, 2, 1), ("keep", "k", 0, 3), ("and", 4, 3), ("or", 0, 4))
        self.assertEqual(depths((cells, ())), (0, 0, 1, 2, 0, 3, 1))
        chain = (("one",),) + tuple(("not", index) for index in range(5999))
        self.assertEqual(depths((chain, ())), tuple(range(6000)))
        self.assertEqual(longest_way((chain, ())), tuple(range(6000)))

    def test_longest_ways_against_all_ways(self):
        source = random_source(9)
        for _ in range(80):
            net = (some_lot(source, source.randint(0, 6), False), ())
            many = len(net[0])
            ways = [way for size in range(1, many + 1) for way in itertools.permutations(range(many), size)
                    if all(a in looks(net[0][b]) for a, b in zip(way, way[1:]))]
            longest = max(map(len, ways), default=0)
            self.assertEqual(max(depths(net), default=-1) + 1, longest)
            rights = [way for way in ways if len(way) == longest] or [()]
            self.assertIn(longest_way(net), rights)
            for value in [(), *itertools.permutations(range(many), longest), *ways]:
                self.assertIs(is_longest_way(net, value), value in rights)

    def test_judge_of_ways(self):
        cells = (("in", "a"), ("one",), ("not", 0), ("and", 2, 1), ("not", 1), ("not", 4))
        check_judge(self, is_longest_way, ((cells, ()),), [(0, 2, 3), (1, 4, 5)],
                    [(1, 3), (3, 2, 0), [0, 2, 3], (0, 2, 3, 3), (False, 2, 3), (0, 2, "3"), (0, 2, 5), (0, 2, 9)])
        check_judge(self, is_longest_way, (((), ()),), [()], [(0,), []])
        # Not each longest way begins at an input.
        self.assertEqual(longest_way(((("in", "a"), ("one",), ("not", 1)), ())), (1, 2))


if __name__ == "__main__":
    unittest.main()
