"""Shifts [5.1]."""

import itertools
import unittest

from support import check_judge, check_own_kinds, check_refused, expect, numbers_but, odd_but, random_source
from truebeat.errors import InvalidNumber, InvalidPlan, UnknownName
from truebeat.nets.net import inputs_of, is_net, keepers_of
from truebeat.nets.walk import beat
from truebeat.parts import shifts
from truebeat.parts.shifts import SIDES, is_rounds_paper, moved_by, plain_rounds, rounds_paper, shift_net
from truebeat.sheets.lay import bits_of, words_of

ROUNDS = [value for value in odd_but() if value != ()] + [
    ((0, 1),) * 25, ((2, 1),), ((-1, 1),), ((0, 65),), ((0, -1),), ((True, 1),), ((0, True),), ((0,),), ((0, 1, 1),),
    [(0, 1)], ([0, 1],), ((0, None),), ((0, 10 ** 61),)]


def plainly_moved(size, side, word, places):
    return (word << places) % (1 << size) if side == "left" else word >> places


def moved_round_by_round(size, side, rounds, word, amount):
    for bit, by in rounds:
        if amount >> bit & 1:
            word = plainly_moved(size, side, word, by)
    return word


def some_rounds(source, many, right):
    """Rounds, of which each bit's places are often together 2 ** bit."""
    rounds = []
    for bit in range(many):
        left = (1 << bit) if right else source.choice((1 << bit, 0, 3, 64))
        while left > 0 and len(rounds) < 20:
            by = source.randint(1, left) if len(rounds) < 14 else left
            rounds.append((bit, min(by, 64)))
            left -= min(by, 64)
    source.shuffle(rounds)
    return tuple(rounds)


def cases(seed):
    source = random_source(seed)
    for size, many, side in itertools.product((1, 2, 3, 5), (1, 2, 3, 4), SIDES):
        for turn in range(6):
            yield size, side, many, some_rounds(source, many, turn % 2 == 0)


class ShiftsTest(unittest.TestCase):
    def test_the_example(self):
        self.assertEqual(
            [plain_rounds(3), moved_by(8, "left", 2, ((0, 1), (1, 2)), 5, 3),
             rounds_paper(4, "left", 3, ((2, 9), (0, 1), (1, 1), (1, 1))),
             is_rounds_paper(8, "right", 2, ((0, 1), (1, 3)), (8, 2))],
            [((0, 1), (1, 2), (2, 4)), 40, None, True])

    def test_constants(self):
        self.assertEqual((shifts.MAX_SHIFTED, shifts.MAX_AMOUNT, shifts.MAX_ROUNDS, shifts.MAX_BY), (32, 6, 24, 64))
        self.assertEqual(SIDES, ("left", "right"))

    def test_plain_rounds(self):
        self.assertEqual(plain_rounds(1), ((0, 1),))
        self.assertEqual(plain_rounds(6), ((0, 1), (1, 2), (2, 4), (3, 8), (4, 16), (5, 32)))
        check_refused(self, plain_rounds, (6,), [(0, InvalidNumber, numbers_but(1, 6))])
        for size, many, side in itertools.product((1, 2, 8, 31, 32), range(1, 7), SIDES):
            self.assertIsNone(rounds_paper(size, side, many, plain_rounds(many)))

    def test_moved_by(self):
        for size, side, many, rounds in cases(1):
            for word, amount in itertools.product(range(1 << size), range(1 << many)):
                self.assertEqual(moved_by(size, side, many, rounds, word, amount),
                                 moved_round_by_round(size, side, rounds, word, amount))
        self.assertEqual(moved_by(32, "left", 6, ((5, 64),) * 24, 2 ** 32 - 1, 63), 0)
        self.assertEqual(moved_by(32, "right", 6, plain_rounds(6), 2 ** 31, 31), 1)
        self.assertEqual(moved_by(32, "left", 1, (), 9, 1), 9)

    def test_rounds_shift_exactly_if_their_sums_do(self):
        found = {True: 0, False: 0}
        for size, side, many, rounds in cases(2):
            words, amounts = range(1 << size), range(1 << many)
            wrong = [(word, amount) for word in words for amount in amounts
                     if moved_round_by_round(size, side, rounds, word, amount)
                     != plainly_moved(size, side, word, amount)]
            sums = [sum(by for at, by in rounds if at == bit) for bit in range(many)]
            right = all(total == 1 << bit or min(total, 1 << bit) >= size for bit, total in enumerate(sums))
            self.assertEqual(right, not wrong)
            found[right] += 1
            paper = rounds_paper(size, side, many, rounds)
            self.assertTrue(paper in wrong if wrong else paper is None)
            check_own_kinds(self, paper)
            for value in itertools.product(words, amounts):
                self.assertIs(is_rounds_paper(size, side, many, rounds, value), value in wrong)
            self.assertIs(is_rounds_paper(size, side, many, rounds, None), False)
            self.assertEqual(rounds_paper(size, side, many, rounds[::-1]) is None, right)
        self.assertGreater(min(found.values()), 40)

    def test_edges_of_papers(self):
        for side in SIDES:
            self.assertIsNone(rounds_paper(1, side, 1, ((0, 5),)))
            self.assertIs(is_rounds_paper(1, side, 1, (), (1, 1)), True)
            few = plain_rounds(5)
            self.assertIs(is_rounds_paper(32, side, 6, few, rounds_paper(32, side, 6, few)), True)
            self.assertIsNone(rounds_paper(32, side, 6, plain_rounds(5) + ((5, 64),)))
            wrong = plain_rounds(4) + ((4, 31),)
            self.assertIs(is_rounds_paper(32, side, 5, wrong, rounds_paper(32, side, 5, wrong)), True)

    def test_judge(self):
        check_judge(self, is_rounds_paper, (4, "left", 2, ((0, 1),)), [(1, 2), (1, 3), (3, 2)],
                    [(0, 2), (1, 1), (True, 2), (1, True), (16, 2), (1, 4), (1,), (1, 2, 3), [1, 2], (1, -1), (-1, 2)])

    def test_nets(self):
        source = random_source(3)
        more = [(size, side, many, rounds) for size, side in itertools.product((1, 8, 31, 32), SIDES)
                for many, rounds in ((6, plain_rounds(6)), (1, ((0, 64), (0, 0))), (5, some_rounds(source, 5, False)),
                                     (2, ((1, 3),) * 24), (3, ()))]
        for size, side, many, rounds in [*list(cases(4))[::4], *more]:
            net = shift_net(size, side, many, rounds)
            self.assertIs(is_net(net), True)
            self.assertEqual(keepers_of(net), ())
            self.assertEqual(sorted(inputs_of(net)), sorted(
                [f"x.{bit}" for bit in range(size)] + [f"k.{bit}" for bit in range(many)]))
            for _ in range(12):
                word, amount = source.randrange(1 << size), source.randrange(1 << many)
                told, _ = beat(net, 1, {}, bits_of({"x": size, "k": many}, {"x": word, "k": amount}))
                right = moved_by(size, side, many, rounds, word, amount)
                self.assertEqual(words_of({"s": size}, told), {"s": right})

    def test_errors(self):
        sides = odd_but() + ["Left", "up", ("left",), ["left"]]
        good = (4, "left", 2, ((1, 64),) * 24)
        ahead = [(0, InvalidNumber, numbers_but(1, 32)), (1, UnknownName, sides), (2, InvalidNumber, numbers_but(1, 6)),
                 (3, InvalidPlan, ROUNDS)]
        check_refused(self, rounds_paper, good, ahead)
        check_refused(self, shift_net, good, ahead)
        check_refused(self, moved_by, (*good, 15, 3), [
            *ahead, (4, InvalidNumber, numbers_but(0, 15)), (5, InvalidNumber, numbers_but(0, 3))])
        for where, kind, values in ahead:
            for value in values:
                args = [*good[:where], value, *good[where + 1:], None]
                expect(self, kind, value, is_rounds_paper, *args)
        expect(self, InvalidPlan, None, rounds_paper, 4, "left", 1, ((1, 2),))


if __name__ == "__main__":
    unittest.main()
