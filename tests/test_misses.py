"""Misses of near lines [15.6] and [15.7], and near lines alike in beats [15.8] and [15.9]."""

import itertools
import unittest

from near_made import SETTINGS, few_places, near_step, open_up, some_ask, some_near
from support import alike, check_own_kinds, check_refused, expect, odd_but, random_source
from test_near import ASKS_WRONG, NEAR_WRONG, OFF
from truebeat.errors import InvalidAsk, InvalidChoice, InvalidLines, Refused
from truebeat.near.alike import is_parting, parting_asks
from truebeat.near.lines import Near, near_words
from truebeat.near.misses import best_victims, misses

VICTIMS_WRONG = odd_but((), (0,), (0, 0, 0)) + [[0], (2,), (-1,), (0, False), (None,), (0,) * 201]


def run_of_asks(near, asks, victims):
    """The asks that miss, how many beats each takes if the memory answers at once, and the victims wanted.

    By the beats of the tests' own near lines; `None` for the misses if there are too few victims.
    """
    m = open_up(near, {})
    missed, beats, wanted = [], [], 0
    for index, ask in enumerate(asks):
        answer, many = None, 0
        while answer is None:
            lines = [line for line in m["lines"] if line["on"] and line["block"] % m["sets"] == ask[1] // 2 % m["sets"]]
            full = m["turn"] is None and len(lines) == 2 and ask[1] // 2 not in [line["block"] for line in lines]
            if full and wanted == len(victims):
                return None, beats, wanted
            answer = near_step(m, ask, 1, victims[wanted] if full else 0)
            wanted += full
            many += 1
        missed += [index] if many > 1 else []
        beats.append(many)
    return tuple(missed), beats, wanted


def idle(near):
    return Near(near.width, near.sets, near.lines)


def single(near):
    """The same near lines, of two lines of a set that are on with one block only one of them on."""
    lines = list(near.lines)
    for at in range(0, len(lines), 2):
        if lines[at][0] and lines[at + 1][0] and lines[at][1] == lines[at + 1][1]:
            lines[at] = (False, *lines[at][1:])
    return Near(near.width, near.sets, tuple(lines))


class MissesTest(unittest.TestCase):
    def test_drawn(self):
        source = random_source(1)
        lacking = 0
        for turn in range(1500):
            width, sets = SETTINGS[turn % len(SETTINGS)]
            near = idle(some_near(source, width, sets))
            asks = tuple(some_ask(source, width, sets) for _ in range(source.randrange(20)))
            victims = tuple(source.randrange(2) for _ in range(source.randrange(20)))
            missed, told, wanted = run_of_asks(near, asks, victims)
            if missed is None:
                expect(self, Refused, ("victims", len(told)), misses, near, asks, victims)
                lacking += 1
                continue
            self.assertTrue(alike(misses(near, asks, victims), missed))
            self.assertEqual(misses(near, asks, victims[:wanted]), missed)
            self.assertEqual(misses(near, asks, victims + (1, 0)), missed)
            if wanted > 0:
                error = len(run_of_asks(near, asks, victims[:wanted - 1])[1])
                expect(self, Refused, ("victims", error), misses, near, asks, victims[:wanted - 1])
        self.assertTrue(100 < lacking < 1400)

    def test_kinds(self):
        near = Near(4, 1, ((True, 0, False, 1, 2), (True, 3, True, 7, 8)))
        asks = (("read", 1), ("write", 6, 0), ("read", 8), ("read", 0), ("write", 7, 1), ("read", 9))
        self.assertEqual(misses(near, asks, (0, 0, 1)), (2, 3, 5))
        self.assertEqual(misses(near, asks, (1, 1, 1, 0)), (2, 4, 5))
        self.assertEqual(misses(near, asks, (1, 1, 0)), (2, 4, 5))
        self.assertEqual(misses(near, (), ()), ())
        expect(self, Refused, ("victims", 2), misses, near, asks, ())
        expect(self, Refused, ("victims", 3), misses, near, asks, (0,))
        self.assertEqual(misses(Near(4, 1), asks, (0,) * 200), (0, 1, 2, 3, 5))
        self.assertEqual(misses(Near(4, 8), asks, ()), (0, 1, 2))
        self.assertEqual(misses(Near(4, 4), (("read", 0), ("read", 8)) * 100, ()), (0, 1))

    def test_words_and_memory_mean_nothing(self):
        source = random_source(2)
        for turn in range(200):
            width, sets = SETTINGS[turn % len(SETTINGS)]
            near = idle(some_near(source, width, sets))
            other = Near(width, sets, tuple((on, block, not dirty, high, low) for on, block, dirty, low, high in near.lines))
            asks = tuple(some_ask(source, width, sets) for _ in range(15))
            reads = tuple(("read", ask[1] ^ 1) for ask in asks)
            self.assertEqual(misses(near, asks, (0, 1) * 8), misses(other, reads, (0, 1) * 8))

    def test_not_true(self):
        near, asks = Near(4, 1), tuple(("read", 2 * block) for block in (0, 1, 2, 0))
        self.assertNotEqual(misses(near, asks, (0, 0)), misses(near, asks, (1, 0)))

    def test_errors(self):
        good = (Near(4, 1), (("read", 3),), (1, 0))
        wrong = [(0, InvalidLines, NEAR_WRONG), (1, InvalidAsk, ASKS_WRONG)]
        check_refused(self, misses, good, [*wrong, (2, InvalidChoice, VICTIMS_WRONG)])
        check_refused(self, best_victims, good[:2], wrong)
        turning = Near(4, 1, None, ("fill", 0, 0, 2))
        expect(self, InvalidChoice, None, misses, turning, (), (2,))
        expect(self, InvalidAsk, None, misses, turning, (None,), ())
        expect(self, Refused, ("turn",), misses, turning, (("read", 0),) * 3, ())
        expect(self, InvalidAsk, None, best_victims, turning, (None,))
        expect(self, Refused, ("turn",), best_victims, turning, ())
        full = Near(4, 1, ((True, 0, False, 0, 0), (True, 1, False, 0, 0)), ("fill", 0, 0, 2))
        expect(self, Refused, ("turn",), misses, full, (("read", 6),), ())


class BestTest(unittest.TestCase):
    def test_against_all_rows(self):
        source = random_source(3)
        wants = 0
        for _ in range(250):
            width, sets = source.choice(((4, 1), (4, 1), (5, 2), (4, 2)))
            near = idle(some_near(source, width, sets))
            asks = tuple(some_ask(source, width, sets) for _ in range(source.randrange(11)))
            told = best_victims(near, asks)
            check_own_kinds(self, told)
            missed, _, wanted = run_of_asks(near, asks, told)
            self.assertEqual(len(told), wanted)
            rows = [run_of_asks(near, asks, row)[0] for row in itertools.product((0, 1), repeat=min(len(asks), 8))]
            self.assertEqual(len(missed), min(len(row) for row in rows if row is not None))
            wants += wanted > 2
        self.assertGreater(wants, 30)

    def test_long(self):
        asks = tuple(("read", 2 * (at * at % 7)) for at in range(200))
        told = best_victims(Near(8, 1), asks)
        self.assertEqual(len(misses(Near(8, 1), asks, told)), len(told) + 2)
        self.assertEqual(best_victims(Near(4, 8), asks[:50]), ())


class AlikeTest(unittest.TestCase):
    def check_parted(self, one, other):
        told = parting_asks(one, other)
        self.assertIsNotNone(told, (one.lines, other.lines))
        check_own_kinds(self, told)
        self.assertLessEqual(len(told[0]), 4)
        for near, further in ((one, other), (other, one)):
            self.assertIs(is_parting(near, further, told), True)
        beats = [run_of_asks(near, *told) for near in (one, other)]
        self.assertNotIn(None, [missed for missed, _, _ in beats])
        self.assertNotEqual(sum(beats[0][1]), sum(beats[1][1]))
        return told

    def is_alike_by_words(self, one, other):
        """By [15.8]: ways in sets of at least three blocks, else blocks."""
        pairs = [(one.lines[at:at + 2], other.lines[at:at + 2]) for at in range(0, 2 * one.sets, 2)]
        if (1 << (one.width - 1)) // one.sets >= 3:
            return all((a[0], b[0]) == (False, False) or a[:3] == b[:3] for ones, others in pairs for a, b in zip(ones, others))
        return all({a[1] for a in ones if a[0]} == {b[1] for b in others if b[0]} for ones, others in pairs)

    def some_pair(self, source, width, sets):
        """Two near lines, or one of which some lines are changed a little."""
        one = single(some_near(source, width, sets))
        if source.randrange(4) == 0:
            return one, single(some_near(source, width, sets))
        lines = list(one.lines)
        for _ in range(source.randrange(3)):
            at = 2 * source.randrange(sets)
            on, block, dirty, low, high = lines[at]
            lines[at:at + 2] = source.choice((
                [lines[at + 1], lines[at]], [(on, block, not dirty, low, high), lines[at + 1]],
                [(on, block, dirty, high, 0), lines[at + 1]], [(not on, block, dirty, low, high), lines[at + 1]],
                [lines[at], (on, block, dirty, low, high)]))
        return one, single(Near(width, sets, tuple(lines)))

    def test_drawn(self):
        source = random_source(4)
        seen = {}
        for turn in range(3000):
            one, other = self.some_pair(source, *SETTINGS[turn % len(SETTINGS)])
            if self.is_alike_by_words(one, other):
                self.assertIsNone(parting_asks(one, other))
                asks = tuple(some_ask(source, one.width, one.sets) for _ in range(25))
                victims = tuple(source.randrange(2) for _ in range(25))
                self.assertEqual(run_of_asks(one, asks, victims)[1], run_of_asks(other, asks, victims)[1])
                self.assertIs(is_parting(one, other, (asks, victims)), False)
                seen[0] = seen.get(0, 0) + 1
            else:
                many = len(self.check_parted(one, other)[0])
                seen[many] = seen.get(many, 0) + 1
        self.assertTrue(all(seen.get(many, 0) > 20 for many in (0, 1, 2, 3)), seen)

    def test_all_of_few_blocks(self):
        """Both directions over all near lines of the least settings, with blocks 0 to 3 of one set."""
        lines = [(False, 0, False, 0, 0)] + [(True, block, dirty, 0, 0) for block in (0, 1, 2) for dirty in (False, True)]
        every = [Near(4, 1, pair) for pair in itertools.product(lines, repeat=2) if not pair[0][0] or pair[0][1] != pair[1][1]]
        for one, other in itertools.combinations_with_replacement(every, 2):
            if self.is_alike_by_words(one, other):
                self.assertIsNone(parting_asks(one, other))
            else:
                self.check_parted(one, other)
        lines = [(False, 0, False, 0, 0)] + [(True, block, dirty, 0, 0) for block in (0, 4) for dirty in (False, True)]
        rest = (OFF[:1] + (1,) + OFF[2:],) * 2 + (OFF[:1] + (2,) + OFF[2:],) * 2 + (OFF[:1] + (3,) + OFF[2:],) * 2
        every = [Near(4, 4, pair + rest) for pair in itertools.product(lines, repeat=2) if not pair[0][0] or pair[0] != pair[1]]
        every = [near for near in every if single(near) == near]
        asks = [(("read", 0),), (("write", 8, 1),), (("read", 0), ("read", 8), ("write", 0, 1))]
        for one, other in itertools.combinations_with_replacement(every, 2):
            if self.is_alike_by_words(one, other):
                self.assertIsNone(parting_asks(one, other))
                for row in asks:
                    self.assertEqual(run_of_asks(one, row, ())[1], run_of_asks(other, row, ())[1])
            else:
                self.check_parted(one, other)

    def test_each_difference(self):
        first, second, other = (True, 0, False, 1, 2), (True, 1, True, 1, 2), (True, 2, False, 0, 0)
        base = Near(4, 1, (first, second))
        self.assertIsNone(parting_asks(base, Near(4, 1, (first[:3] + (9, 9), second))))
        self.assertIsNone(parting_asks(Near(4, 1), Near(4, 1, ((False, 5, True, 1, 1), OFF))))
        for lines in ((second, first), (first[:2] + (True, 1, 2), second), (first, second[:2] + (False, 1, 2)), (first, OFF),
                      (OFF, second), (first, other), (other, second), (OFF, OFF), (other, first)):
            self.check_parted(base, Near(4, 1, lines))
        for lines in ((OFF, first), (first[:2] + (True, 1, 2), OFF), (OFF, first[:2] + (True, 1, 2)), (second, OFF)):
            self.check_parted(Near(4, 1, (first, OFF)), Near(4, 1, lines))
        lines = [OFF, OFF, (False, 1, False, 0, 0), (True, 3, False, 0, 0)]
        told = self.check_parted(Near(4, 2, tuple(lines)), Near(4, 2, (*lines[:2], lines[3], lines[2])))
        self.assertTrue(all(place // 2 % 2 == 1 for _, place in told[0]))
        few = [(True, 0, True, 0, 0), (False, 0, False, 0, 0)]
        rest = tuple((False, number, False, 0, 0) for number in (1, 2, 3) for _ in range(2))
        self.assertIsNone(parting_asks(Near(4, 4, (*few, *rest)), Near(4, 4, (few[1], (True, 0, False, 1, 1), *rest))))

    def test_judge(self):
        first, second = (True, 0, False, 1, 2), (True, 1, False, 1, 2)
        one, other = Near(4, 1, (first, second)), Near(4, 1, (second, first))
        right = ((("read", 4), ("read", 0)), (0, 0))
        rights = [right, (right[0], (0, 0, 1, 0)), (right[0] * 2, (0, 0, 0, 0, 0)), ((("write", 5, 9), ("read", 2)), (0, 0)),
                  ((("read", 0),) * 198 + right[0], (0,) * 200)]
        wrongs = [(right[0], (0,)), (right[0], ()), ((), ()), ((("read", 4),), (0,)), (right[0], (0, True)), (right[0], [0, 0]),
                  (list(right[0]), (0, 0)), right[0], (*right, ()), (right[0], (0,) * 201), (right[0] * 101, (0,) * 200),
                  ((None, *right[0]), (0, 0)), ((("read", 16),), (0, 0)), ((("read", 0),) * 199 + right[0], (0, 0))]
        for value in rights:
            self.assertIs(is_parting(one, other, value), True, value)
        for value in wrongs + odd_but():
            self.assertIs(is_parting(one, other, value), False, value)
        self.assertIs(is_parting(one, one, right), False)

    def test_drawn_values_judged(self):
        """Drawn asks, many of them writes, with victims enough or too few, against their beats."""
        source = random_source(5)
        parted = enough = 0
        for turn in range(3000):
            width, sets = ((4, 1), (4, 2), (5, 2))[turn % 3]
            one, other = self.some_pair(source, width, sets)
            value = (tuple(some_ask(source, width, sets) for _ in range(source.randrange(9))), tuple(source.randrange(2) for _ in range(source.randrange(9))))
            runs = [run_of_asks(near, *value) for near in (one, other)]
            right = None not in [missed for missed, _, _ in runs] and sum(runs[0][1]) != sum(runs[1][1])
            self.assertIs(is_parting(one, other, value), right)
            parted += right
            enough += None not in [missed for missed, _, _ in runs]
        self.assertTrue(500 < parted < enough - 500 < 2400, (parted, enough))

    def test_costs(self):
        """Rows in which a miss is as dear as hits and other misses: 4 and 6 beats, and the dirt that a write leaves."""
        clean, dirty, off = (True, 0, False, 0, 0), (True, 1, True, 0, 0), (False, 0, False, 0, 0)
        full, half = Near(4, 1, (clean, dirty)), Near(4, 1, (clean, off))
        # Of block 2 and then 3: 6 + 4 beats where dirt goes first, 4 + 6 where it goes last.
        for asks, victims, told in (((("read", 4), ("read", 6)), (1, 1), [6, 4]), ((("read", 4), ("read", 6)), (0, 1), [4, 6]),
                                    ((("write", 4, 1), ("read", 6)), (0, 0), [4, 6]), ((("write", 1, 1), ("read", 6)), (0,), [1, 6]),
                                    ((("read", 2), ("read", 6)), (1,), [1, 6]), ((("write", 2, 1), ("read", 6)), (1,), [1, 6])):
            self.assertEqual(run_of_asks(full, asks, victims)[1], told)
            beats = sum(told)
            others = run_of_asks(half, asks, victims)
            self.assertIs(is_parting(full, half, (asks, victims)), others[0] is not None and sum(others[1]) != beats)
        # Five clean misses and three hits are as dear as five hits and three dirty misses, and not as four of these.
        for many in (3, 4, 2):
            ones, others = [], []
            for number in range(8):
                on = (True, number, False, 0, 0)
                ones += [on, (False, *on[1:])] if number < many else [(False, *on[1:])] * 2
                others += [(True, number + 8 * at, True, 0, 0) for at in (1, 2)] if number < many else [on, (False, *on[1:])]
            one, other = Near(8, 8, tuple(ones)), Near(8, 8, tuple(others))
            value = (tuple(("read", 2 * number) for number in range(many + 5)[:8]), (0,) * 8)
            runs = [run_of_asks(near, *value) for near in (one, other)]
            self.assertEqual(many == 3, sum(runs[0][1]) == sum(runs[1][1]))
            self.assertIs(is_parting(one, other, value), many != 3)
        swapped = Near(4, 1, (dirty, clean))
        self.assertIs(is_parting(full, swapped, ((("read", 4), ("read", 6)), (1, 0))), False)
        self.assertIs(is_parting(full, swapped, ((("read", 4), ("read", 6)), (1, 1))), True)

    def test_not_true(self):
        """Two near lines with the same words over one memory are not always alike in beats."""
        memory = {0: 1, 1: 2}
        one, other = Near(4, 1, ((True, 0, False, 1, 2), OFF)), Near(4, 1)
        self.assertEqual(near_words(one, memory), near_words(other, memory))
        self.check_parted(one, other)

    def test_errors(self):
        good = (Near(4, 2), Near(4, 2))
        double = Near(4, 2, ((True, 0, False, 0, 0), (True, 0, True, 1, 1), *good[0].lines[2:]))
        wrong = NEAR_WRONG + [double]
        check_refused(self, parting_asks, good, [(0, InvalidLines, wrong), (1, InvalidLines, wrong)])
        check_refused(self, is_parting, (*good, None), [(0, InvalidLines, wrong), (1, InvalidLines, wrong)])
        turning = Near(4, 2, None, ("fill", 0, 0, 2))
        for function, *value in ((parting_asks,), (is_parting, None)):
            for other in (Near(4, 1), Near(5, 2), double):
                expect(self, InvalidLines, None, function, turning, other, *value)
                expect(self, InvalidLines, None, function, other, turning, *value)
            expect(self, Refused, ("turn",), function, turning, good[0], *value)
            expect(self, Refused, ("turn",), function, good[0], turning, *value)
        half = Near(4, 2, ((True, 0, False, 0, 0), (False, 0, True, 1, 1), *good[0].lines[2:]))
        self.assertIsNone(parting_asks(half, half))

    def test_places(self):
        self.assertEqual(few_places(4, 8), [0, 1, 2, 3])


if __name__ == "__main__":
    unittest.main()
