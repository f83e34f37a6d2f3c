"""Adders [4.1] to [4.5]."""

import itertools
import unittest

from support import check_judge, check_own_kinds, check_refused, expect, numbers_but, odd_but, random_source
from truebeat.base.words import carries, signed
from truebeat.errors import InvalidNumber, InvalidPlan, UnknownName
from truebeat.nets.net import inputs_of, is_net, keepers_of
from truebeat.nets.walk import beat, joined, lane_of
from truebeat.parts import adders
from truebeat.parts.adders import (
    PLANS, adder_net, carries_by, compared_net, is_plan, is_plan_paper, merged, picked_net, plan_depth, plan_of,
    plan_paper, row_of)
from truebeat.sheets.lay import bits_of

# Pieces that overlap, joins of a piece with itself, and joins on which no out hangs.
ODD_PLANS = (
    (3, (((2, 0), (3, 1), (2, 3)), (0, 1, 2))), (3, (((1, 0), (2, 1), (4, 3)), (0, 3, 5))),
    (3, (((1, 0), (2, 3), (2, 3), (5, 5)), (0, 3, 6))), (2, (((0, 0), (1, 2)), (2, 3))), (2, ((), (1, 0))),
    (1, ((), (0,))), (1, (((0, 0), (1, 1)), (2,))), (3, (((1, 0), (0, 1), (2, 4)), (0, 3, 5))),
    (3, (((1, 0),), (0, 3, 3))), (2, (((1, 0), (2, 0)), (0, 3))), (3, (((2, 1), (3, 0), (1, 2), (1, 0)), (0, 6, 4))),
)


def some_plan(source, size, many):
    joins = tuple((source.randrange(size + at), source.randrange(size + at)) for at in range(many))
    return joins, tuple(source.randrange(size + many) for _ in range(size))


def some_adder(source, size):
    """A right plan, grown by joins of neighbouring runs of places."""
    joins, runs = [], {(place, place): place for place in range(size)}
    while any((place, 0) not in runs for place in range(size)) and len(joins) < 400:
        (top, middle), high = source.choice(sorted(runs.items()))
        lows = [(run, piece) for run, piece in sorted(runs.items()) if run[1] < middle <= run[0] + 1 and run[0] <= top]
        if lows:
            run, piece = source.choice(lows)
            joins.append((high, piece))
            runs[top, run[1]] = size + len(joins) - 1
    return tuple(joins), tuple(runs.get((place, 0), place) for place in range(size))


def pieces_made(size, plan, one, other):
    """For each piece whether it makes, and whether it hands on a carry."""
    pieces = [((one & other) >> at & 1, (one ^ other) >> at & 1) for at in range(size)]
    for high, low in plan[0]:
        makes = pieces[high][0] or (pieces[high][1] and pieces[low][0])
        pieces.append((int(bool(makes)), pieces[high][1] & pieces[low][1]))
    return pieces


def all_words(size):
    return itertools.product(range(1 << size), range(1 << size))


def plain_row(size, plan, piece):
    """The row of a piece, by the words of the document."""
    if piece < size:
        return (piece,)
    high, low = plan[0][piece - size]
    row = plain_row(size, plan, high)
    return row + tuple(place for place in plain_row(size, plan, low) if place not in row)


class PlansTest(unittest.TestCase):
    def test_the_example(self):
        self.assertEqual(
            [plan_of("row", 4), plan_of("halves", 4), plan_depth(6, plan_of("ladder", 6)),
             row_of(3, (((2, 0), (3, 1), (2, 3)), (0, 1, 2)), 4)],
            [(((1, 0), (2, 4), (3, 5)), (0, 4, 5, 6)), (((1, 0), (3, 2), (2, 4), (5, 4)), (0, 4, 6, 7)), 3, (2, 0, 1)])

    def test_constants(self):
        self.assertEqual((adders.MAX_ADDED, adders.MAX_JOINS), (32, 400))
        self.assertEqual(PLANS, ("row", "halves", "doubling", "ladder"))

    def test_further_plans(self):
        self.assertEqual(plan_of("doubling", 4), (((1, 0), (2, 1), (3, 2), (5, 0), (6, 4)), (0, 4, 7, 8)))
        self.assertEqual(plan_of("ladder", 6), (((1, 0), (3, 2), (5, 4), (7, 6), (8, 9), (2, 6), (4, 9)),
                                                (0, 6, 11, 9, 12, 10)))
        for kind in PLANS:
            self.assertEqual(plan_of(kind, 1), ((), (0,)))
            self.assertEqual(plan_of(kind, 2), (((1, 0),), (0, 2)))

    def test_all_kinds_are_adders(self):
        source = random_source(1)
        for kind, size in itertools.product(PLANS, range(1, 33)):
            plan = plan_of(kind, size)
            self.assertIs(is_plan(size, plan), True)
            check_own_kinds(self, plan)
            self.assertIsNone(plan_paper(size, plan))
            for place in range(size):
                self.assertEqual(row_of(size, plan, plan[1][place]), tuple(range(place, -1, -1)))
            for _ in range(6):
                one, other = source.randrange(1 << size), source.randrange(1 << size)
                for carry, word in itertools.product((0, 1), (other, (1 << size) - 1 - one)):
                    told = carries_by(size, plan, one, word, carry)
                    self.assertEqual(told, carries(size, one, word, first=carry)[1:])

    def test_depths(self):
        for size in range(1, 33):
            least = min(d for d in range(6) if 1 << d >= size)
            self.assertEqual(plan_depth(size, plan_of("row", size)), size - 1)
            self.assertEqual(plan_depth(size, plan_of("halves", size)), least)
            self.assertEqual(plan_depth(size, plan_of("doubling", size)), least)
            self.assertGreaterEqual(plan_depth(size, plan_of("ladder", size)), least)
        # Only the outs count.
        self.assertEqual(plan_depth(2, (((1, 0), (2, 0), (3, 0)), (0, 2))), 1)
        self.assertEqual(plan_depth(3, ((), (0, 0, 0))), 0)

    def test_rows(self):
        source = random_source(2)
        plans = [*ODD_PLANS, *[(size, some_plan(source, size, 9)) for size in (1, 2, 4, 7, 32)]]
        for size, plan in plans:
            for piece in range(size + len(plan[0])):
                row = row_of(size, plan, piece)
                self.assertEqual(row, plain_row(size, plan, piece))
                self.assertLessEqual(len(row), size)

    def test_equal_rows_are_equal_pieces(self):
        source = random_source(3)
        plans = [*ODD_PLANS, *[(3, some_plan(source, 3, 6)) for _ in range(20)]]
        for size, plan in plans:
            tables = list(zip(*[pieces_made(size, plan, one, other) for one, other in all_words(size)]))
            rows = [row_of(size, plan, piece) for piece in range(size + len(plan[0]))]
            for a, b in itertools.product(range(len(rows)), repeat=2):
                self.assertEqual(tables[a] == tables[b], rows[a] == rows[b])

    def test_judge(self):
        joins = ((1, 0), (2, 3))
        check_judge(self, is_plan, (3,), [(joins, (0, 3, 4)), ((), (2, 2, 2)), (((0, 0),) * 400, (402, 0, 0))],
                    [(((0, 0),) * 401, (0, 0, 0)), (joins, (0, 3)), (joins, (0, 3, 5)), (joins, (0, 3, 4, 4)),
                     (joins, (0, 3, -1)), (joins, (0, 3, True)), (joins, [0, 3, 4]), (list(joins), (0, 3, 4)),
                     (((1, 3),), (0, 0, 0)), (((3, 1),), (0, 0, 0)), (((1,),), (0, 0, 0)), (((1, 0, 0),), (0, 0, 0)),
                     (((1, False),), (0, 0, 0)), (([1, 0],), (0, 0, 0)), (joins,), (joins, (0, 3, 4), ()),
                     ((None,), (0, 0, 0)), (((1, 10 ** 70),), (0, 0, 0))])
        self.assertIs(is_plan(1, ((), (0,))), True)
        for value in numbers_but(1, 32):
            expect(self, InvalidNumber, value, is_plan, value, None)

    def test_what_is_told(self):
        for size, plan in ODD_PLANS:
            for (one, other), carry in itertools.product(all_words(size), (0, 1)):
                pieces = pieces_made(size, plan, one, other)
                told = tuple(int(pieces[p][0] or (pieces[p][1] and carry)) for p in plan[1])
                self.assertEqual(carries_by(size, plan, one, other, carry), told)


class PapersTest(unittest.TestCase):
    def test_adders_exactly_have_no_paper(self):
        source = random_source(4)
        plans = [*ODD_PLANS, *[(size, some_plan(source, size, 7)) for size in (1, 2, 3, 3, 3) for _ in range(8)],
                 *[(3, some_adder(source, 3)) for _ in range(10)]]
        found = {True: 0, False: 0}
        for size, plan in plans:
            right = all(carries_by(size, plan, one, other, carry) == carries(size, one, other, first=carry)[1:]
                        for one, other in all_words(size) for carry in (0, 1))
            rows = [row_of(size, plan, piece) for piece in plan[1]]
            self.assertEqual(right, rows == [tuple(range(place, -1, -1)) for place in range(size)])
            found[right] += 1
            paper = plan_paper(size, plan)
            self.assertIs(paper is None, right)
            papers = [(place, one, other, carry) for one, other in all_words(size) for carry in (0, 1)
                      for place in range(size)
                      if carries_by(size, plan, one, other, carry)[place]
                      != carries(size, one, other, first=carry)[place + 1]]
            if not right:
                self.assertIn(paper, papers)
                check_own_kinds(self, paper)
            for (one, other), carry, place in itertools.product(all_words(size), (0, 1), range(size)):
                value = (place, one, other, carry)
                self.assertIs(is_plan_paper(size, plan, value), value in papers)
            self.assertIs(is_plan_paper(size, plan, None), False)
        self.assertTrue(found[True] >= 10 and found[False] >= 20)

    def test_wrong_outs_at_each_place(self):
        source = random_source(5)
        for kind, size in itertools.product(PLANS, (2, 5, 8, 16, 31, 32)):
            joins, outs = plan_of(kind, size)
            for place in range(size):
                piece = source.choice([p for p in range(size + len(joins)) if p != outs[place]])
                plan = (joins, outs[:place] + (piece,) + outs[place + 1:])
                rights = row_of(size, plan, piece) == tuple(range(place, -1, -1))
                paper = plan_paper(size, plan)
                self.assertEqual(paper is None, rights)
                if not rights:
                    self.assertEqual(paper[0], place)
                    self.assertIs(is_plan_paper(size, plan, paper), True)

    def test_judge(self):
        plan = ((), (0, 1))
        check_judge(self, is_plan_paper, (2, plan), [(1, 3, 1, 0), (1, 1, 3, 0), (1, 2, 0, 1)],
                    [(0, 3, 1, 0), (1, 1, 1, 0), (1, 3, 1, 1), (True, 3, 1, 0), (1, 3, True, 0), (1, 3, 1, False),
                     (1, 7, 1, 0), (2, 3, 1, 0), (1, 3, 1, 2), (1, 3, 1), [1, 3, 1, 0], (1, 3, 1, 0, 0),
                     (-1, 3, 1, 0), (1, -1, 1, 0), (1, 3, None, 0)])
        check_judge(self, is_plan_paper, (2, plan_of("row", 2)), [], [(1, 1, 1, 0), None])


class MergedTest(unittest.TestCase):
    def test_merged(self):
        self.assertEqual(merged(3, (((1, 0), (1, 0), (2, 4), (5, 5)), (0, 4, 6))), (((1, 0), (2, 3)), (0, 3, 4)))
        self.assertEqual(merged(2, (((0, 0), (1, 2)), (2, 3))), (((1, 0),), (0, 2)))
        self.assertEqual(merged(3, (((2, 1), (1, 0), (0, 2)), (0, 4, 2))), (((1, 0),), (0, 3, 2)))
        self.assertEqual(merged(1, (((0, 0), (1, 1)), (2,))), ((), (0,)))
        self.assertEqual(merged(2, (((1, 0), (0, 1)), (3, 2))), (((1, 0), (0, 1)), (3, 2)))

    def test_of_other_plans(self):
        source = random_source(6)
        plans = [*ODD_PLANS, *[(size, some_plan(source, size, 12)) for size in (2, 3, 4) for _ in range(15)]]
        for size, plan in plans:
            less = merged(size, plan)
            self.assertIs(is_plan(size, less), True)
            check_own_kinds(self, less)
            rows = [row_of(size, less, piece) for piece in range(size + len(less[0]))]
            self.assertEqual(len(set(rows)), len(rows))
            before = [row_of(size, plan, piece) for piece in range(size + len(plan[0]))]
            self.assertEqual([row_of(size, plan, p) for p in plan[1]], [rows[p] for p in less[1]])
            kept = [before.index(row) for row in rows[size:]]
            self.assertEqual(kept, sorted(kept))
            for row, (high, low) in zip(rows[size:], less[0]):
                first = plan[0][before.index(row) - size]
                self.assertEqual((rows[high], rows[low]), (before[first[0]], before[first[1]]))
            hanging = set(less[1])
            for at in range(len(less[0]) - 1, -1, -1):
                self.assertIn(size + at, hanging)
                hanging.update(less[0][at])
            self.assertEqual(merged(size, less), less)

    def test_plans_without_twins_stay(self):
        for kind, size in itertools.product(PLANS, range(1, 33)):
            plan = plan_of(kind, size)
            self.assertEqual(merged(size, plan), plan)


class AdderNetsTest(unittest.TestCase):
    def check_ports(self, net, size, carried, outputs):
        self.assertIs(is_net(net), True)
        self.assertEqual(keepers_of(net), ())
        names = [f"{word}.{bit}" for word in "xy" for bit in range(size)] + ["c.0"] * carried
        self.assertEqual(sorted(inputs_of(net)), sorted(names))
        self.assertEqual(sorted(name for name, _ in net[1]), sorted(outputs))

    def sums(self, net, size, triples):
        """What an adding net puts out, 64 triples of words and carry at once."""
        for low in range(0, len(triples), 64):
            some = triples[low:low + 64]
            rows = tuple(bits_of({"x": size, "y": size, "c": 1}, {"x": one, "y": other, "c": carry})
                         for one, other, carry in some)
            told, _ = beat(net, len(some), {}, joined(rows))
            for lane, triple in enumerate(some):
                yield triple, lane_of(told, lane)

    def triples(self, size):
        if size < 4:
            return [(one, other, carry) for one, other in all_words(size) for carry in (0, 1)]
        source, top = random_source(size), (1 << size) - 1
        words = [0, 1, top, top - 1, top // 2, *[source.randrange(top + 1) for _ in range(5)]]
        pairs = [(one, other) for one in words for other in (*words, top - one)]
        return [(*pair, carry) for pair in pairs for carry in (0, 1)]

    def check_sums(self, net, size, told_by):
        outputs = [f"s.{bit}" for bit in range(size)] + ["out.0"]
        self.check_ports(net, size, 1, outputs)
        for (one, other, carry), told in self.sums(net, size, self.triples(size)):
            behind = told_by(one, other, carry)
            bits = [(one ^ other) >> at & 1 ^ (carry, *behind)[at] for at in range(size)]
            self.assertEqual(told, {**{f"s.{at}": bit for at, bit in enumerate(bits)}, "out.0": behind[-1]})

    def test_adder_nets(self):
        for kind, size in itertools.product(PLANS, (1, 2, 3, 4, 7, 8, 16, 31, 32)):
            net = adder_net(size, plan_of(kind, size))
            self.check_sums(net, size, lambda one, other, carry: carries(size, one, other, first=carry)[1:])

    def test_nets_of_wrong_plans(self):
        source = random_source(7)
        plans = [*ODD_PLANS, (32, some_plan(source, 32, 400)), (4, some_plan(source, 4, 20))]
        for size, plan in plans:
            net = adder_net(size, plan)
            self.check_sums(net, size, lambda one, other, carry: carries_by(size, plan, one, other, carry))

    def test_picked_nets(self):
        for size in range(1, 33):
            for block in range(1, size + 1) if size < 9 else {1, 2, 3, 5, size // 2, size - 1, size}:
                net = picked_net(size, block)
                self.check_sums(net, size, lambda one, other, carry: carries(size, one, other, first=carry)[1:])

    def test_compared_nets(self):
        for size in (1, 2, 3, 4, 8, 16, 31, 32):
            net = compared_net(size)
            self.check_ports(net, size, 0, ["below.0", "under.0", "same.0"])
            pairs = sorted({(one, other) for one, other, _ in self.triples(size)} | {(5 % 2 ** size, 5 % 2 ** size)})
            for one, other in pairs:
                told, _ = beat(net, 1, {}, bits_of({"x": size, "y": size}, {"x": one, "y": other}))
                self.assertEqual(told, {
                    "below.0": int(one < other), "same.0": int(one == other),
                    "under.0": int(signed(size, one) < signed(size, other))})
                last = carries(size, one, (1 << size) - 1 - other, first=1)[-1]
                self.assertEqual(told["below.0"], 1 - last)


class RefusedPlansTest(unittest.TestCase):
    def test_kinds(self):
        kinds = odd_but() + ["Row", "rows", "row ", ("row",), ["row"]]
        check_refused(self, plan_of, ("row", 4), [(0, UnknownName, kinds), (1, InvalidNumber, numbers_but(1, 32))])

    def test_plans(self):
        plan = plan_of("row", 3)
        sizes = numbers_but(1, 32)
        plans = odd_but() + [plan_of("row", 2), plan_of("row", 4), (plan[0], (0, 3, 5)), (plan[0], (0, 3, True)),
                             plan[0]]
        ahead = [(0, InvalidNumber, sizes), (1, InvalidPlan, plans)]
        for function in (plan_depth, plan_paper, merged, adder_net):
            check_refused(self, function, (3, plan), ahead)
        check_refused(self, row_of, (3, plan, 4), [*ahead, (2, InvalidNumber, numbers_but(0, 4))])
        words = numbers_but(0, 7)
        check_refused(self, carries_by, (3, plan, 7, 0, 1), [
            *ahead, (2, InvalidNumber, words), (3, InvalidNumber, words), (4, InvalidNumber, numbers_but(0, 1))])
        for size in sizes:
            expect(self, InvalidNumber, size, is_plan_paper, size, plan, None)
        for wrong in plans:
            expect(self, InvalidPlan, None, is_plan_paper, 3, wrong, None)

    def test_sizes_and_blocks(self):
        sizes = numbers_but(1, 32)
        check_refused(self, compared_net, (3,), [(0, InvalidNumber, sizes)])
        check_refused(self, picked_net, (3, 3), [(0, InvalidNumber, sizes), (1, InvalidNumber, numbers_but(1, 3))])


if __name__ == "__main__":
    unittest.main()
