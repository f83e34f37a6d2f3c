"""Classes of cells, papers of wires, and lesser nets [8.1] to [8.6]."""

import itertools
import unittest

from nets_made import fillings, looks_at, names_of, plain_beat, plain_values, some_clocked, some_still
from support import check_judge, check_own_kinds, check_refused, expect, odd_but, random_source
from truebeat.errors import InvalidNet, TooMany
from truebeat.judge.alike import alike_paper
from truebeat.judge.lesser import are_classes, is_lesser, is_wire_paper, least_hard, lesser, wire_classes
from truebeat.nets.net import is_net

HARD = ("and", "or", "xor", "pick", "keep")
X, Y, ONE = ("in", "x"), ("in", "y"), ("one",)
ZERO_CLASS, ONE_CLASS = (None, 0), (None, 1)
NETS = odd_but() + [(X, Y), ((("not", 0),), ()), (((X, X), ()))]
# What each reason of the table says, for a cell behind x, y, one, not one, not x, and an equal cell ahead of it.
AHEAD = (X, Y, ONE, ("not", 2), ("not", 0))
AHEAD_CLASSES = ((0, 0), (1, 0), ONE_CLASS, ZERO_CLASS, (0, 1))
SIMPLE = (
    (("and", 0, 3), ZERO_CLASS), (("and", 3, 1), ZERO_CLASS), (("and", 0, 4), ZERO_CLASS), (("and", 4, 0), ZERO_CLASS),
    (("and", 0, 2), (0, 0)), (("and", 1, 1), (1, 0)), (("and", 2, 4), (0, 1)), (("or", 0, 2), ONE_CLASS),
    (("or", 2, 1), ONE_CLASS), (("or", 4, 0), ONE_CLASS), (("or", 0, 3), (0, 0)), (("or", 4, 4), (0, 1)),
    (("or", 3, 1), (1, 0)), (("xor", 1, 1), ZERO_CLASS), (("xor", 0, 4), ONE_CLASS), (("xor", 0, 3), (0, 0)),
    (("xor", 3, 4), (0, 1)), (("xor", 0, 2), (0, 1)), (("xor", 2, 4), (0, 0)), (("pick", 2, 0, 1), (0, 0)),
    (("pick", 1, 4, 4), (0, 1)), (("pick", 3, 0, 1), (1, 0)), (("pick", 1, 2, 3), (1, 0)), (("pick", 0, 3, 2), (0, 1)),
    (("not", 0), (0, 1)), (("not", 4), (0, 0)), (("not", 2), ZERO_CLASS), (("one",), ONE_CLASS),
)
# Pairs of cells behind the same ones of which the second one has the class of the first one, or its opposite.
LIKE = (
    (("and", 0, 1), ("and", 0, 1), 0), (("and", 0, 1), ("and", 1, 0), 0), (("or", 4, 1), ("or", 1, 4), 0),
    (("xor", 0, 1), ("xor", 1, 0), 0), (("xor", 0, 1), ("xor", 1, 4), 1), (("xor", 4, 1), ("xor", 0, 1), 1),
    (("pick", 0, 1, 3), ("pick", 0, 1, 3), 0), (("pick", 0, 1, 3), ("pick", 4, 3, 1), 0),
)
UNLIKE = (
    (("and", 0, 1), ("or", 0, 1)), (("and", 0, 1), ("and", 4, 1)), (("and", 0, 1), ("and", 1, 4)),
    (("pick", 0, 1, 3), ("pick", 0, 3, 1)), (("pick", 0, 1, 3), ("pick", 1, 0, 3)), (("xor", 0, 1), ("and", 0, 1)),
)


def opposite(pair):
    return pair[0], 1 - pair[1]


def is_own(net, classes, index):
    return classes[index] == (index, 0) and net[0][index][0] in HARD + ("in",)


def is_right_by_words(net, classes):
    """Whether pairs for all cells are right classes, by the table of [8.1]."""
    return all(is_own(net, classes, index) or has_reason(net[0], net, classes, index) for index in range(len(net[0])))


def has_reason(cells, net, classes, index):
    cell, told = cells[index], classes[index]
    looks = [classes[at] for at in looks_at(cell)]
    owner = told[0]
    like = owner is not None and is_own(net, classes, owner) and cells[owner][0] == cell[0]
    others = [classes[at] for at in looks_at(cells[owner])] if like else []
    if cell[0] == "one":
        return told == ONE_CLASS
    if cell[0] == "not":
        return told == opposite(looks[0])
    if cell[0] in ("and", "or"):
        low, high = (ZERO_CLASS, ONE_CLASS) if cell[0] == "and" else (ONE_CLASS, ZERO_CLASS)
        i, j = looks
        return (told == low and (low in looks or j == opposite(i)) or told == i and (j == high or j == i)
                or told == j and i == high or like and told[1] == 0 and sorted_pairs(others) == sorted_pairs(looks))
    if cell[0] == "xor":
        i, j = looks
        if (told == ZERO_CLASS and i == j or told == ONE_CLASS and i == opposite(j) or told == i and j == ZERO_CLASS
                or told == j and i == ZERO_CLASS or told == opposite(i) and j == ONE_CLASS
                or told == opposite(j) and i == ONE_CLASS):
            return True
        for a, b in itertools.permutations(others, 2):
            if a in (i, opposite(i)) and b in (j, opposite(j)) and told[1] == ((a != i) + (b != j)) % 2:
                return True
        return False
    if cell[0] == "pick":
        c, i, j = looks
        return (told == i and (c == ONE_CLASS or i == j) or told == j and c == ZERO_CLASS
                or told == c and (i, j) == (ONE_CLASS, ZERO_CLASS)
                or told == opposite(c) and (i, j) == (ZERO_CLASS, ONE_CLASS)
                or like and told[1] == 0 and others in ([c, i, j], [opposite(c), j, i]))
    if cell[0] == "keep" and cell[2] is not None:
        fed = classes[cell[3]]
        if owner is None:
            return told == (None, cell[2]) and fed == told
        if not like or cells[owner][2] is None:
            return False
        right = fed if told[1] == 0 else opposite(fed)
        return cells[owner][2] == cell[2] ^ told[1] and classes[cells[owner][3]] == right
    return False


def sorted_pairs(pairs):
    return sorted(pairs, key=repr)


def all_pairs(many):
    return [ZERO_CLASS, ONE_CLASS] + [(index, bit) for index in range(many) for bit in (0, 1)]


def all_right(net):
    """All right classes of a small net."""
    options = []
    for index, cell in enumerate(net[0]):
        options.append([(index, 0)] if cell[0] == "in" else [ONE_CLASS] if cell[0] == "one" else all_pairs(len(net[0])))
    return [value for value in itertools.product(*options) if is_right_by_words(net, value)]


def says(classes, one, other):
    """What classes say of two cells: 0 if they are equal, 1 if opposite, otherwise None."""
    if classes[one] == classes[other]:
        return 0
    return 1 if classes[one] == opposite(classes[other]) else None


def heard(net, classes):
    """The hard cells that are heard by these classes."""
    found, edge = set(), [classes[at][0] for _, at in net[1]]
    while edge:
        index = edge.pop()
        if index is not None and index not in found:
            found.add(index)
            cell = net[0][index]
            edge += [classes[at][0] for at in (cell[3:] if cell[0] == "keep" else looks_at(cell))]
    return [index for index in found if net[0][index][0] in HARD]


def is_paper_by_words(net, other, value):
    """Whether classes and places, well formed, are a paper of wires [8.4]."""
    classes, places = value
    used = [place for place in places if place is not None]
    if len(set(used)) < len(used) or not is_right_by_words(net, classes):
        return False
    stands = {}
    for at, cell in enumerate(other[0]):
        if at in used:
            stands[at] = (places.index(at), 0)
        elif cell[0] == "one":
            stands[at] = ONE_CLASS
        elif cell[0] == "not" and cell[1] in stands:
            stands[at] = opposite(stands[cell[1]])
    for index, place in enumerate(places):
        if place is None:
            continue
        one, there = net[0][index], other[0][place]
        if not is_own(net, classes, index) or one[0] != there[0] or (one[0] == "in" and one != there):
            return False
        if one[0] == "keep" and one[2] != there[2]:
            return False
        looks = [one[3:], there[3:]] if one[0] == "keep" else [looks_at(one), looks_at(there)]
        if [classes[at] for at in looks[0]] != [stands.get(at) for at in looks[1]]:
            return False
    return {name: classes[at] for name, at in net[1]} == {name: stands.get(at) for name, at in other[1]}


class ClassesTest(unittest.TestCase):
    def test_each_simple_reason(self):
        for cell, told in SIMPLE:
            net = (AHEAD + (cell,), ())
            self.assertEqual(wire_classes(net), AHEAD_CLASSES + (told,), cell)
            for pair in all_pairs(6):
                value = AHEAD_CLASSES + (pair,)
                right = pair == told or (pair == (5, 0) and cell[0] in HARD)
                self.assertIs(are_classes(net, value), right, (cell, pair))
                self.assertEqual(is_right_by_words(net, value), right)

    def test_each_like_owner(self):
        for one, other, turned in LIKE:
            for first, second in ((one, other), (other, one)):
                net = (AHEAD + (first, second), ())
                self.assertEqual(wire_classes(net), AHEAD_CLASSES + ((5, 0), (5, turned)))
                for pair in all_pairs(7):
                    right = pair in ((5, turned), (6, 0))
                    self.assertIs(are_classes(net, AHEAD_CLASSES + ((5, 0), pair)), right, (first, second, pair))
                # The owner may stand behind, too, but not both ahead of one another.
                self.assertIs(are_classes(net, AHEAD_CLASSES + ((6, turned), (6, 0))), True)
                self.assertIs(are_classes(net, AHEAD_CLASSES + ((6, turned), (5, turned))), False)
        for one, other in UNLIKE:
            net = (AHEAD + (one, other), ())
            self.assertEqual(wire_classes(net), AHEAD_CLASSES + ((5, 0), (6, 0)))
            for bit in (0, 1):
                self.assertIs(are_classes(net, AHEAD_CLASSES + ((5, 0), (5, bit))), False)

    def test_keepers(self):
        def kept(*keepers):
            return (X, ("not", 0), *[("keep", f"k{at}", *told) for at, told in enumerate(keepers)]), ()

        self.assertEqual(wire_classes(kept((0, 0), (0, 0)))[2:], ((2, 0), (2, 0)))
        self.assertEqual(wire_classes(kept((0, 0), (1, 1)))[2:], ((2, 0), (2, 1)))
        self.assertEqual(wire_classes(kept((0, 0), (1, 0)))[2:], ((2, 0), (3, 0)))
        self.assertEqual(wire_classes(kept((0, 0), (0, 1)))[2:], ((2, 0), (3, 0)))
        self.assertEqual(wire_classes(kept((None, 0), (None, 0)))[2:], ((2, 0), (3, 0)))
        # Fed by itself or in a ring, a keeper has its first bit at all beats; those that wake as anything have none.
        self.assertEqual(wire_classes(kept((0, 2), (1, 3)))[2:], (ZERO_CLASS, ONE_CLASS))
        self.assertEqual(wire_classes(kept((0, 3), (0, 2)))[2:], (ZERO_CLASS, ZERO_CLASS))
        self.assertEqual(wire_classes(kept((0, 3), (1, 2)))[2:], ((2, 0), (2, 1)))
        self.assertEqual(wire_classes(kept((None, 2), (0, 2)))[2:], ((2, 0), (3, 0)))
        self.assertIs(are_classes(kept((None, 2)), ((0, 0), (0, 1), (None, 0))), False)
        self.assertIs(are_classes(kept((0, 2)), ((0, 0), (0, 1), (None, 1))), False)

    def test_rings_of_reasons(self):
        # Two counters of two bits, side by side: each keeper is like that of the other one by the others.
        cells = (("keep", "a", 0, 4), ("keep", "b", 0, 5), ("keep", "c", 1, 7), ("keep", "d", 0, 8), ("not", 0),
                 ("xor", 0, 1), ("not", 2), ("not", 2), ("xor", 6, 3))
        classes = wire_classes((cells, ()))
        self.assertEqual(classes, ((0, 0), (1, 0), (0, 1), (1, 0), (0, 1), (5, 0), (0, 0), (0, 0), (5, 0)))
        self.assertIs(are_classes((cells, ()), classes), True)
        self.assertEqual(is_right_by_words((cells, ()), classes), True)

    def test_coarsest_ones_against_all_right_ones(self):
        source = random_source(1)
        many = 0
        for turn in range(70):
            firsts = ((0, 1), (0,), (0, 1, None))[turn % 3]
            net = some_clocked(source, ("x", "y")[:source.randrange(3)], ("k", "l", "m")[:source.randrange(4)],
                               source.randrange(3), ("o", "p"), firsts)
            if len(net[0]) > 6:
                continue
            rights = all_right(net)
            told = wire_classes(net)
            check_own_kinds(self, told)
            self.assertIn(told, rights)
            for value in rights:
                self.assertIs(are_classes(net, value), True)
                for index in range(len(told)):
                    if value[index][0] is None:
                        self.assertEqual(told[index], value[index])
                    for other in range(index):
                        if says(value, index, other) is not None:
                            self.assertEqual(says(told, index, other), says(value, index, other))
            for owner in {owner for owner, _ in told if owner is not None}:
                self.assertEqual(owner, min(index for index, pair in enumerate(told) if pair[0] == owner))
            # No right classes leave fewer hard cells to be heard.
            self.assertEqual(least_hard(net), min(len(heard(net, value)) for value in rights))
            many += len(rights) > 2
            for _ in range(200):
                value = tuple(source.choice(all_pairs(len(told))) if source.randrange(3) == 0 else pair for pair in told)
                self.assertEqual(are_classes(net, value), is_right_by_words(net, value))
        self.assertGreater(many, 20)

    def test_what_classes_say_is_true(self):
        source = random_source(2)
        for turn in range(40):
            net = some_clocked(source, ("x", "y"), ("k", "l", "m", "n"), 12, (), ((0, 1), (0, 1, None))[turn % 2])
            classes = wire_classes(net)
            firsts = {cell[1]: cell[2] for cell in net[0] if cell[0] == "keep"}
            loose = [name for name in firsts if firsts[name] is None]
            for wake in fillings(loose):
                state = {**firsts, **wake}
                for _ in range(12):
                    given = {"x": source.randrange(2), "y": source.randrange(2)}
                    bits = plain_values(net[0], state, given)
                    for bit, (owner, turned) in zip(bits, classes):
                        self.assertEqual(bit, turned if owner is None else bits[owner] ^ turned)
                    _, state = plain_beat(net, state, given)

    def test_judge(self):
        net = (AHEAD + (("and", 0, 1), ("and", 1, 0)), ())
        good = AHEAD_CLASSES + ((5, 0), (5, 0))
        wrongs = [good[:-1], good + ((None, 0),), list(good), good[:-1] + ([5, 0],), good[:-1] + ((5, False),),
                  good[:-1] + ((True, 0),), good[:-1] + ((5,),), good[:-1] + ((5, 0, 0),), good[:-1] + ((5, 2),),
                  good[:-1] + ((7, 0),), good[:-1] + ((-1, 0),), good[:-1] + ((5, None),), good[:-1] + (None,),
                  ((1, 0),) + good[1:], ((0, 1),) + good[1:], good[:4] + ((4, 0),) + good[5:], (ZERO_CLASS,) * 7,
                  good[:2] + ((2, 0),) + good[3:]]
        check_judge(self, are_classes, (net,), [good, AHEAD_CLASSES + ((5, 0), (6, 0)),
                                               AHEAD_CLASSES + ((6, 0), (6, 0))], wrongs)
        check_judge(self, are_classes, (((), ()),), [()], [(ZERO_CLASS,)])
        for value in NETS:
            expect(self, InvalidNet, None, are_classes, value, ())
        check_refused(self, wire_classes, (net,), [(0, InvalidNet, NETS)])

    def test_what_is_not_true(self):
        # x and (not x or y) and .. : a cell that is 0 at all beats without a reason for it.
        cells = (X, Y, ("and", 0, 1), ("not", 0), ("and", 2, 3))
        self.assertEqual(alike_paper((cells, (("o", 4),)), ((ONE, ("not", 0)), (("o", 1),)))[0], "alike")
        self.assertEqual(wire_classes((cells, ()))[4], (4, 0))
        other = ((ONE, ("not", 0)), (("o", 1),))
        self.assertNotEqual(least_hard((cells, (("o", 4),))), least_hard(other))


class PapersTest(unittest.TestCase):
    NET = (AHEAD + (("and", 0, 1), ("or", 5, 3), ("keep", "k", 1, 8), ("not", 6)), (("o", 6), ("p", 8), ("q", 2)))
    CLASSES = AHEAD_CLASSES + ((5, 0), (5, 0), (7, 0), (5, 1))
    OTHER = ((Y, X, ("and", 1, 0), ("keep", "l", 1, 4), ("not", 2), ONE), (("p", 4), ("q", 5), ("o", 2)))
    PLACES = (1, 0, None, None, None, 2, None, 3, None)

    def test_judge(self):
        good = (self.CLASSES, self.PLACES)
        without = (self.CLASSES, self.PLACES[:7] + (None, None))
        self.assertTrue(is_paper_by_words(self.NET, self.OTHER, good))
        wrongs = [
            (self.CLASSES,), (*good, ()), list(good), (list(self.CLASSES), self.PLACES),
            (self.CLASSES, list(self.PLACES)), (self.CLASSES, self.PLACES[:-1]), (self.CLASSES, self.PLACES + (None,)),
            (self.CLASSES, (1, 1) + self.PLACES[2:]), (self.CLASSES, (0, 1) + self.PLACES[2:]),
            (self.CLASSES, (True, 0) + self.PLACES[2:]), (self.CLASSES, (6, 0) + self.PLACES[2:]),
            (self.CLASSES, (-1, 0) + self.PLACES[2:]), (self.CLASSES, (None,) * 9),
            (self.CLASSES, self.PLACES[:6] + (2, 3, None)), (self.CLASSES, self.PLACES[:5] + (None, 2, 3, None)),
            (self.CLASSES, self.PLACES[:8] + (4,)), (self.CLASSES, self.PLACES[:2] + (5,) + self.PLACES[3:]),
            (self.CLASSES[:6] + ((6, 0),) + self.CLASSES[7:], self.PLACES), (None, self.PLACES), (self.CLASSES, None),
        ]
        check_judge(self, is_wire_paper, (self.NET, self.OTHER), [good, without], wrongs)
        for place in range(9):
            for told in (None, 0, 1, 2, 3, 4, 5):
                value = (self.CLASSES, self.PLACES[:place] + (told,) + self.PLACES[place + 1:])
                right = is_paper_by_words(self.NET, self.OTHER, value)
                self.assertIs(is_wire_paper(self.NET, self.OTHER, value), right)

    def test_wrong_nets_beside_a_right_paper(self):
        good = (self.CLASSES, self.PLACES)
        cells, outputs = self.OTHER
        for others in ((("in", "z"),) + cells[1:], cells[:2] + (("or", 1, 0),) + cells[3:],
                       cells[:3] + (("keep", "l", 0, 4),) + cells[4:], cells[:3] + (("keep", "l", None, 4),) + cells[4:],
                       cells[:2] + (("and", 0, 1),) + cells[3:], cells[:3] + (("keep", "l", 1, 2),) + cells[4:],
                       cells[:4] + (("not", 3),) + cells[5:]):
            self.assertFalse(is_paper_by_words(self.NET, (others, outputs), good))
            self.assertIs(is_wire_paper(self.NET, (others, outputs), good), False)
        for ports in (outputs[:2], outputs + (("r", 0),), (("p", 4), ("q", 5), ("n", 2)), (("p", 5), ("q", 4), ("o", 2))):
            self.assertIs(is_wire_paper(self.NET, (cells, ports), good), False)
        # Names of keepers mean nothing, and other cells may stand there, too.
        more = (cells[:3] + (("keep", "k", 1, 4),) + cells[4:] + (("in", "z"), ("xor", 6, 3)), outputs)
        self.assertIs(is_wire_paper(self.NET, more, good), True)
        self.assertTrue(is_paper_by_words(self.NET, more, good))

    def test_papers_keep_what_nets_do(self):
        source = random_source(3)
        for _ in range(40):
            net = some_clocked(source, ("x", "y"), ("k", "l", "m"), 14, ("o", "p", "q"), (0, 1, None))
            other, paper = lesser(net)
            wakes = [name for name in names_of(net, "keep")]
            placed = {net[0][index][1]: other[0][place][1] for index, place in enumerate(paper[1])
                      if place is not None and net[0][index][0] == "keep"}
            firsts = {cell[1]: cell[2] for cell in net[0] if cell[0] == "keep"}
            for wake in fillings(wakes):
                if any(firsts[name] not in (None, bit) for name, bit in wake.items()):
                    continue
                state, there = dict(wake), {placed[name]: bit for name, bit in wake.items() if name in placed}
                for _ in range(6):
                    given = {"x": source.randrange(2), "y": source.randrange(2)}
                    told, state = plain_beat(net, state, given)
                    again, there = plain_beat(other, there, {name: given[name] for name in names_of(other, "in")})
                    self.assertEqual(told, again)

    def test_equal_places(self):
        # Two cells that do the same, each its own, at one place.
        net = ((X, Y, ("and", 0, 1), ("and", 0, 1)), (("o", 3),))
        other = ((Y, X, ("and", 1, 0), ("and", 1, 0)), (("o", 3),))
        whole = tuple((index, 0) for index in range(4))
        for first, second in itertools.product((None, 2, 3), repeat=2):
            value = (whole, (1, 0, first, second))
            right = first != second and second == 3
            self.assertIs(is_wire_paper(net, other, value), right)
            self.assertEqual(is_paper_by_words(net, other, value), right)
        # The cells at which it looks stand in their sequence.
        turned = (net[0][:3] + (("and", 1, 0),), net[1])
        self.assertIs(is_wire_paper(turned, other, (whole, (1, 0, 2, 3))), False)
        self.assertIs(is_wire_paper(turned, (other[0][:3] + (("and", 0, 1),), net[1]), (whole, (1, 0, 2, 3))), True)

    def test_errors(self):
        for value in NETS:
            expect(self, InvalidNet, None, is_wire_paper, value, value, None)
            expect(self, InvalidNet, None, is_wire_paper, value, self.OTHER, None)
            expect(self, InvalidNet, None, is_wire_paper, self.NET, value, None)


class LesserTest(unittest.TestCase):
    def check_lesser(self, net):
        told = lesser(net)
        check_own_kinds(self, told)
        other, paper = told
        self.assertIs(is_net(other), True)
        self.assertLessEqual(len(other[0]), 2 * len(net[0]) + 2)
        self.assertTrue(is_paper_by_words(net, other, paper))
        self.assertIs(is_wire_paper(net, other, paper), True)
        self.assertIs(is_lesser(net, told), True)
        hard = [cell for cell in other[0] if cell[0] in HARD]
        self.assertEqual(len(hard), least_hard(net))
        self.assertEqual(len(hard), len(heard(net, wire_classes(net))))
        self.assertEqual(least_hard(other), len(hard))
        return other

    def test_some_nets(self):
        source = random_source(4)
        for _ in range(60):
            self.check_lesser(some_clocked(source, ("x", "y"), ("k", "l", "m"), source.randrange(15), ("o", "p"),
                                           (0, 1, None)))
            self.check_lesser(some_still(source, ("x", "y", "z"), source.randrange(15), ("o",)))
        self.check_lesser(((), ()))
        self.assertEqual(self.check_lesser(((ONE, ("not", 0)), (("o", 1),)))[1], (("o", 1),))
        self.check_lesser(((X, ("not", 0), ("and", 0, 1), ("or", 2, 2)), (("a", 3), ("b", 2))))

    def test_still_nets_stay_alike(self):
        source = random_source(5)
        for _ in range(25):
            net = some_still(source, ("x", "y", "z"), 15, ("o", "p"))
            self.assertEqual(alike_paper(net, self.check_lesser(net))[0], "alike")

    def test_judge(self):
        net = ((X, Y, ("and", 0, 1), ("and", 1, 0), ("xor", 2, 3), ("or", 4, 3)), (("o", 5),))
        other, paper = lesser(net)
        self.assertEqual(least_hard(net), 1)
        cells, ports = other
        # As many other cells as one likes, as long as no hard one is among them.
        wide = (cells + (("in", "z"), ("one",), *[("not", len(cells))] * 40), ports)
        third = ((X, Y, ("and", 0, 1)), (("o", 2),))
        places = (wire_classes(net), (0, 1, 2, None, None, None))
        rights = [(other, paper), (wide, paper), (third, places)]
        whole = tuple((index, 0) for index in range(6))
        wrongs = [(other,), [other, paper], (other, paper, 0), (paper, other), (other, None), (None, paper),
                  ((cells + (("or", 0, 1),), ports), paper), (net, (whole, tuple(range(6)))), (cells, paper),
                  (other, (paper[0], (None,) * 6)), ((cells, ()), paper)]
        self.assertIs(is_wire_paper(net, net, (whole, tuple(range(6)))), True)
        check_judge(self, is_lesser, (net,), rights, wrongs)

    def test_great_nets(self):
        chain = (X,) + tuple(("not", index) for index in range(5998))
        other = self.check_lesser((chain, (("o", 5998),)))
        self.assertEqual(least_hard((chain, (("o", 5998),))), 0)
        self.assertLessEqual(len(other[0]), 6000)
        for function in (lesser, least_hard):
            expect(self, TooMany, 5999, function, (chain + (("not", 0),), ()))
        expect(self, TooMany, 5999, is_lesser, (chain + (("not", 0),), ()), None)
        self.assertIs(is_lesser((chain, ()), None), False)
        # All cells are needed, and a bit 0 that takes two cells where it took one.
        hard = [X, Y, ("xor", 0, 0)]
        while len(hard) < 5999:
            hard.append((("and", "or")[len(hard) % 2], len(hard) - 1 if len(hard) > 3 else 0, (len(hard) + 1) % 2))
        net = (tuple(hard), (("o", 5998), ("z", 2)))
        self.assertLessEqual(len(self.check_lesser(net)[0]), 6000)

    def test_errors(self):
        net = ((X,), (("o", 0),))
        for function in (lesser, least_hard):
            check_refused(self, function, (net,), [(0, InvalidNet, NETS)])
        for value in NETS:
            expect(self, InvalidNet, None, is_lesser, value, None)


if __name__ == "__main__":
    unittest.main()
