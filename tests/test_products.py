"""Heaps, deeds and products [5.2] to [5.4]."""

import itertools
import unittest

from support import check_judge, check_own_kinds, check_refused, expect, numbers_but, odd_but, random_source
from truebeat.base.words import bits_of_word
from truebeat.errors import InvalidNumber, InvalidOperation, InvalidPlan, Refused, TooMany
from truebeat.nets.net import inputs_of, is_net, keepers_of
from truebeat.nets.walk import beat, joined, lane_of
from truebeat.parts import products
from truebeat.parts.products import (
    are_low_deeds, fewest_deeds, heap_behind, low_deeds, product_heap, product_net, worth)
from truebeat.sheets.lay import bits_of, words_of

HEAPS = odd_but(((),)) + [(), (1, 0), ((1,), [1]), [(1,)], ((2,),), ((True,),), ((None,),), (((1,),),), ((),) * 33,
                         ((0,) * 65,), ((0,), (1,) * 65), ((1,), "1")]
DEEDS = [value for value in odd_but() if value != ()] + [
    (("three", 3),), (("two", -1),), (("two", True),), (("four", 0),), (("Two", 0),), (("two",),), (("two", 0, 0),),
    [("two", 0)], (["two", 0],), (("two", 0),) * 2001, ((2, 0),), ((("two",), 0),), (([], 0),), (("two", 0), None)]
HEIGHTS = odd_but((0,), (0, 0, 0)) + [
    (), (65,), (-1,), (True,), (0,) * 33, [1], (1, None), ((1,),), (1, "2"), (10 ** 61,)]


def plain_worth(heap):
    return sum(bit << at for at, column in enumerate(heap) for bit in column) % (1 << len(heap))


def heights_behind(heights, deeds):
    """The heights behind deeds, `None` if one has too few bits."""
    heights = list(heights)
    for word, at in deeds:
        taken = {"three": 3, "two": 2}[word]
        if heights[at] < taken:
            return None
        heights[at] -= taken - 1
        if at + 1 < len(heights):
            heights[at + 1] += 1
    return heights


def deeds_by_search(heights, most):
    """The least number of deeds, by trying all."""
    many, edge, seen = 0, {tuple(heights)}, set()
    while not any(max(heights) <= most for heights in edge):
        seen |= edge
        edge = {tuple(behind) for heights in edge for word in ("three", "two") for at in range(len(heights))
                if (behind := heights_behind(heights, ((word, at),))) is not None} - seen
        many += 1
    return many


def some_deeds(source, heights, many):
    deeds, heights = [], list(heights)
    for _ in range(many):
        choices = [(word, at) for at, height in enumerate(heights) for word, taken in (("two", 2), ("three", 3))
                   if height >= taken]
        if not choices:
            break
        deeds.append(source.choice(choices))
        heights = heights_behind(heights, deeds[-1:])
    return tuple(deeds)


class HeapsTest(unittest.TestCase):
    def test_constants(self):
        self.assertEqual((products.MAX_COLUMNS, products.MAX_HEIGHT), (32, 64))
        self.assertEqual((products.MAX_DEEDS, products.MAX_FACTOR), (2000, 16))

    def test_worth(self):
        self.assertEqual(worth(((1, 1, 1),)), 1)
        self.assertEqual(worth(((),)), 0)
        self.assertEqual(worth(((1, 1, 1), (1, 0), ())), 5)
        self.assertEqual(worth(((), (), (1,))), 4)
        self.assertEqual(worth(((1,) * 64,) * 32), 64 * (2 ** 32 - 1) % 2 ** 32)
        self.assertEqual(worth(((),) * 32), 0)
        for word in range(16):
            self.assertEqual(worth(tuple((bit,) for bit in bits_of_word(4, word))), word)
        check_refused(self, worth, (((1,), (0, 1)),), [(0, InvalidOperation, HEAPS)])

    def test_single_deeds(self):
        self.assertEqual(heap_behind(((1, 0, 1, 1), (0,), ()), (("three", 0),)), ((1, 0), (0, 1), ()))
        self.assertEqual(heap_behind(((1, 1, 0), (0,)), (("two", 0),)), ((0, 0), (0, 1)))
        self.assertEqual(heap_behind(((0, 1, 1), (1,)), (("two", 0), ("two", 0))), ((0,), (1, 0, 1)))
        self.assertEqual(heap_behind(((1,), (1, 1, 1)), (("three", 1),)), ((1,), (1,)))
        self.assertEqual(heap_behind(((1, 0),), ()), ((1, 0),))

    def test_deeds_leave_the_worth(self):
        source = random_source(1)
        for _ in range(150):
            heap = tuple(tuple(source.randrange(2) for _ in range(source.randrange(8)))
                         for _ in range(source.randint(1, 6)))
            heights = [len(column) for column in heap]
            deeds = some_deeds(source, heights, source.randrange(30))
            behind = heap_behind(heap, deeds)
            self.assertEqual(worth(heap), plain_worth(heap))
            self.assertEqual(worth(behind), worth(heap))
            self.assertEqual([len(column) for column in behind], heights_behind(heights, deeds))
            low = heap_behind(behind, low_deeds(tuple(len(column) for column in behind), 1))
            self.assertLessEqual(max(len(column) for column in low), 1)
            bits = tuple(column[0] if column else 0 for column in low)
            self.assertEqual(bits, bits_of_word(len(heap), worth(heap)))
            check_own_kinds(self, behind)

    def test_errors(self):
        good = (((1, 0, 1), (1,), ()), (("three", 0),))
        check_refused(self, heap_behind, good, [(0, InvalidOperation, HEAPS), (1, InvalidPlan, DEEDS)])
        expect(self, Refused, ("few", 0), heap_behind, ((1, 1), (1,)), (("three", 0),))
        expect(self, Refused, ("few", 2), heap_behind, ((1, 1), (1,)), (("two", 0), ("two", 1), ("two", 1), ("two", 0)))
        expect(self, Refused, ("few", 0), heap_behind, ((),), (("two", 0),))
        full = ((1, 1, 0), (1,) * 64)
        expect(self, TooMany, 64, heap_behind, full, (("two", 0),))
        expect(self, Refused, ("few", 1), heap_behind, full, (("two", 0), ("three", 0)))
        self.assertEqual(len(heap_behind(full, (("two", 0), ("two", 1)))[1]), 64)
        expect(self, InvalidPlan, None, heap_behind, full, (("two", 0), ("two", 2)))
        self.assertEqual(heap_behind(((),), ()), ((),))

    def test_most_deeds(self):
        heap = ((1,) * 64,) * 32
        deeds = low_deeds((64,) * 32, 1)
        self.assertEqual(len(deeds), 1959)
        self.assertEqual(worth(heap_behind(heap, deeds)), worth(heap))


class DeedsTest(unittest.TestCase):
    def test_fewest(self):
        self.assertEqual([fewest_deeds((many,), 1) for many in range(7)], [0, 0, 1, 1, 2, 2, 3])
        self.assertEqual([fewest_deeds((many,), 2) for many in range(7)], [0, 0, 0, 1, 1, 2, 2])
        self.assertEqual(fewest_deeds((2, 1, 1), 1), 3)
        self.assertEqual((fewest_deeds((64,), 1), fewest_deeds((0,) * 32, 2)), (32, 0))

    def test_fewest_by_search(self):
        cases = [*itertools.product(range(5), repeat=2), *itertools.product(range(4), repeat=3), (6,), (5, 0, 3)]
        for heights, most in itertools.product(cases, (1, 2)):
            self.assertEqual(fewest_deeds(heights, most), deeds_by_search(heights, most), heights)

    def test_each_column_needs_the_least_number(self):
        source = random_source(2)
        for _ in range(100):
            heights = tuple(source.randrange(65) for _ in range(source.randint(1, 32)))
            for most in (1, 2):
                below, total = 0, 0
                for many in heights:
                    below = next(d for d in range(200) if many + below - 2 * d <= most)
                    total += below
                deeds = low_deeds(heights, most)
                self.assertEqual((fewest_deeds(heights, most), len(deeds)), (total, total))
                self.assertIs(are_low_deeds(heights, most, deeds), True)
                self.assertLessEqual(max(heights_behind(heights, deeds)), most)
                self.assertIs(are_low_deeds(heights, most, deeds + (("two", 0),)), False)
                self.assertIs(are_low_deeds(heights, most, deeds[:-1]), not deeds)
                check_own_kinds(self, deeds)

    def test_all_small_rows_of_deeds(self):
        words = [(word, at) for word in ("three", "two") for at in (0, 1)]
        for heights, most in itertools.product(itertools.product(range(5), repeat=2), (1, 2)):
            fewest = fewest_deeds(heights, most)
            for many in range(4):
                for deeds in itertools.product(words, repeat=many):
                    behind = heights_behind(heights, deeds)
                    right = behind is not None and many == fewest and max(behind) <= most
                    self.assertIs(are_low_deeds(heights, most, deeds), right)

    def test_judge(self):
        check_judge(self, are_low_deeds, ((4, 1), 1),
                    [(("three", 0), ("two", 0), ("three", 1)), (("two", 0), ("three", 0), ("three", 1))],
                    [(("three", 1), ("two", 0), ("three", 0)), [("three", 0), ("two", 0), ("three", 1)],
                     (["three", 0], ("two", 0), ("three", 1)), (("three", False), ("two", 0), ("three", True)),
                     (("three", 0), ("two", 0), ("three", 2)), (("three", 0), ("two", 0)), ()])
        check_judge(self, are_low_deeds, ((2, 2), 2), [()], [(("two", 0),)])

    def test_errors(self):
        ahead = [(0, InvalidOperation, HEIGHTS), (1, InvalidNumber, numbers_but(1, 2))]
        for function in (fewest_deeds, low_deeds):
            check_refused(self, function, ((3, 64), 2), ahead)
        for where, kind, values in ahead:
            for value in values:
                args = [(3, 4), 2, None]
                args[where] = value
                expect(self, kind, value, are_low_deeds, *args)


class ProductsTest(unittest.TestCase):
    def test_heaps(self):
        self.assertEqual(product_heap(3, 5, 7), ((1,), (1, 0), (1, 0, 1)))
        for size in (1, 2, 3, 4):
            for one, other in itertools.product(range(1 << size), repeat=2):
                heap = product_heap(size, one, other)
                self.assertEqual(heap, tuple(
                    tuple((one >> at & 1) * (other >> column - at & 1) for at in range(column + 1))
                    for column in range(size)))
                self.assertEqual(worth(heap), one * other % (1 << size))
        self.assertEqual(worth(product_heap(16, 65535, 65535)), 1)
        check_own_kinds(self, product_heap(16, 65535, 77))
        words = numbers_but(0, 15)
        check_refused(self, product_heap, (4, 15, 0), [
            (0, InvalidNumber, numbers_but(1, 16)), (1, InvalidNumber, words), (2, InvalidNumber, words)])

    def check_net(self, size, deeds):
        net = product_net(size, deeds)
        self.assertIs(is_net(net), True)
        self.assertEqual(keepers_of(net), ())
        self.assertEqual(sorted(inputs_of(net)), sorted(f"{word}.{bit}" for word in "xy" for bit in range(size)))
        source = random_source(size)
        top = (1 << size) - 1
        words = range(top + 1) if size < 4 else [0, 1, top, top - 1, *[source.randrange(top + 1) for _ in range(4)]]
        pairs = list(itertools.product(words, repeat=2))
        rows = joined(tuple(bits_of({"x": size, "y": size}, {"x": one, "y": other}) for one, other in pairs))
        told, _ = beat(net, len(pairs), {}, rows)
        for lane, (one, other) in enumerate(pairs):
            self.assertEqual(words_of({"s": size}, lane_of(told, lane)), {"s": one * other & top})

    def test_nets(self):
        source = random_source(3)
        for size in range(1, 17):
            heights = tuple(range(1, size + 1))
            for deeds in ((), low_deeds(heights, 1), low_deeds(heights, 2), some_deeds(source, heights, 9),
                          some_deeds(source, heights, 2000)):
                self.check_net(size, deeds)

    def test_nets_are_made_by_the_deeds(self):
        # Where all deeds take two bits, no cell "pick" is wanted; further deeds would take three.
        heights, deeds = [1, 2, 3, 4], []
        for column in range(4):
            while heights[column] > 1:
                deeds.append(("two", column))
                heights = heights_behind(heights, deeds[-1:])
        self.assertNotIn("pick", [cell[0] for cell in product_net(4, tuple(deeds))[0]])
        self.assertIn("pick", [cell[0] for cell in product_net(4, ())[0]])

    def test_nets_of_high_columns(self):
        # Deeds that carry nearly all bits into the last column, far above 64 of them.
        heights, deeds = list(range(1, 17)), []
        for column in range(15):
            while heights[column] > 1:
                deeds.append(("two", column))
                heights = heights_behind(heights, deeds[-1:])
        self.assertGreater(heights[15], 64)
        self.check_net(16, tuple(deeds))

    def test_net_errors(self):
        check_refused(self, product_net, (3, (("two", 1),)), [
            (0, InvalidNumber, numbers_but(1, 16)), (1, InvalidPlan, DEEDS)])
        expect(self, Refused, ("few", 0), product_net, 3, (("two", 0),))
        expect(self, Refused, ("few", 1), product_net, 3, (("two", 1), ("two", 1), ("three", 2)))
        expect(self, InvalidPlan, None, product_net, 3, (("two", 0), ("two", 3)))


if __name__ == "__main__":
    unittest.main()
