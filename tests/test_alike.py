"""Still nets that are alike, or parted, and their papers [7.4] to [7.7]."""

import itertools
import unittest

from nets_made import ARITY, fillings, gate, names_of, plain_values, some_still
from support import check_judge, check_own_kinds, check_refused, expect, odd_but, random_source
from truebeat.errors import InvalidNet, InvalidOperation, TooMany
from truebeat.judge.alike import alike_paper, first_parting, is_alike_paper, parting_number
from truebeat.judge.tables import is_table, table_of

X, Y, Z = ("in", "x"), ("in", "y"), ("in", "z")
PLAIN = ((X, Y, ("and", 0, 1), ("not", 2)), (("o", 3),))
TURNED = ((Y, X, ("not", 0), ("not", 1), ("or", 2, 3)), (("o", 4),))
OTHER = ((X, Y, ("or", 0, 1), ("not", 2)), (("o", 3),))
NETS = odd_but() + [PLAIN[0], ((("keep", "k", 0, 0),), (("o", 0),)), ((("not", 0),), ())]


def both_names(one, other):
    return sorted(set(names_of(one, "in") + names_of(other, "in")))


def partings(one, other):
    """The fillings at which an output parts two nets, each with the names of such outputs."""
    found = []
    for filling in fillings(both_names(one, other)):
        told = [plain_values(net[0], {}, filling) for net in (one, other)]
        unlike = [name for name, at in one[1] if told[0][at] != told[1][dict(other[1])[name]]]
        if unlike:
            found.append((filling, unlike))
    return found


def rewritten(source, net):
    """A net that is alike: some gates are made of others, and the outputs come in another sequence."""
    cells, places = [], []
    for cell in net[0]:
        looks = [places[at] for at in cell[1:]] if cell[0] in ARITY else []
        if cell[0] == "and" and source.randrange(2):
            cells += [("not", looks[0]), ("not", looks[1]), ("or", len(cells), len(cells) + 1), ("not", len(cells) + 2)]
        elif cell[0] == "xor" and source.randrange(2):
            cells += [("not", looks[1]), ("pick", looks[0], len(cells), looks[1])]
        elif cell[0] == "pick" and source.randrange(2):
            cells += [("and", looks[0], looks[1]), ("not", looks[0]), ("and", len(cells) + 1, looks[2]),
                      ("or", len(cells), len(cells) + 2)]
        else:
            cells.append((cell[0], *looks) if cell[0] in ARITY else cell)
        places.append(len(cells) - 1)
    return tuple(cells), tuple((name, places[at]) for name, at in reversed(net[1]))


def is_paper_by_words(one, other, value):
    """Whether a well formed value is a paper of likeness, by the words of [7.5]."""
    _, names, table, nodes, more, joins = value
    there = set(joins)

    def holds(word, looks, node):
        if max(looks) < 2:
            return node == gate(word, looks)
        return (word, looks, node) in there

    def asked(node):
        return table[node - 2][0] if node > 1 else 99

    if list(joins) != sorted(there) or sorted(names) != both_names(one, other):
        return False
    for word, looks, node in joins:
        if max(looks) < 2:
            return False
        at = min(asked(look) for look in looks)
        low = tuple(table[look - 2][1] if asked(look) == at else look for look in looks)
        high = tuple(table[look - 2][2] if asked(look) == at else look for look in looks)
        every = range(len(table) + 2)
        stands = [a for a in every for b in every if holds(word, low, a) and holds(word, high, b) and node == (
            a if a == b else table.index((at, a, b)) + 2 if (at, a, b) in table else -1)]
        if not stands:
            return False
    for cells, told in ((one[0], nodes), (other[0], more)):
        for cell, node in zip(cells, told):
            if cell[0] == "in":
                good = node > 1 and table[node - 2] == (names.index(cell[1]), 0, 1)
            elif cell[0] == "one":
                good = node == 1
            else:
                good = holds(cell[0], tuple(told[at] for at in cell[1:]), node)
            if not good:
                return False
    return all(nodes[at] == more[dict(other[1])[name]] for name, at in one[1])


def moved_paper(names, paper):
    """A paper of likeness with its rows in another sequence, where that can be."""
    _, told, table, nodes, more, joins = paper
    order = sorted(range(len(table)), key=lambda index: (-table[index][0], -index))
    places = {0: 0, 1: 1, **{index + 2: place + 2 for place, index in enumerate(order)}}
    rows = tuple((table[index][0], places[table[index][1]], places[table[index][2]]) for index in order)
    moved = sorted((word, tuple(places[look] for look in looks), places[node]) for word, looks, node in joins)
    return ("alike", told, rows, tuple(places[node] for node in nodes), tuple(places[node] for node in more),
            tuple(moved))


class PapersTest(unittest.TestCase):
    def check_paper(self, one, other):
        """The paper that is told, and its likeness or its filling by a plain trial."""
        found = partings(one, other)
        paper = alike_paper(one, other)
        check_own_kinds(self, paper)
        self.assertIs(is_alike_paper(one, other, paper), True)
        self.assertEqual(paper[0], "unlike" if found else "alike")
        if found:
            self.assertIn((paper[1], True), [(filling, paper[2] in names) for filling, names in found])
            for filling in fillings(both_names(one, other)):
                for name, _ in one[1]:
                    right = any(filling == told and name in names for told, names in found)
                    self.assertIs(is_alike_paper(one, other, ("unlike", filling, name)), right)
            self.assertEqual(first_parting(one, other), tuple(found[0][0].values()))
        else:
            self.assertTrue(is_paper_by_words(one, other, paper))
            self.assertIsNone(first_parting(one, other))
        self.assertEqual(parting_number(one, other), len(found))
        return paper

    def test_nets_that_are_alike(self):
        source = random_source(1)
        for turn in range(60):
            one = some_still(source, ("b", "a", "d", "c")[:source.randrange(5)], source.randrange(10), ("o", "n"))
            other = rewritten(source, one)
            paper = self.check_paper(one, other)
            self.assertEqual(paper[0], "alike")
            moved = moved_paper(paper[1], paper)
            self.assertIs(is_alike_paper(one, other, moved), True)
            self.assertTrue(is_paper_by_words(one, other, moved))

    def test_some_nets(self):
        source = random_source(2)
        alike = 0
        for turn in range(150):
            inputs = ("a", "b", "c")
            one = some_still(source, inputs[:source.randrange(4)], source.randrange(6), ("o", "n")[:turn % 3])
            other = some_still(source, inputs[source.randrange(4):], source.randrange(6), ("n", "o")[-(turn % 3):]
                               if turn % 3 else ())
            alike += self.check_paper(one, (other[0], tuple(sorted(other[1])))
                                      if len(one[1]) != 1 else (other[0], (("o", len(other[0]) - 1),)))[0] == "alike"
        self.assertGreater(alike, 20)

    def test_parted_by_one_filling(self):
        for inputs in (2, 5, 12):
            cells = [("in", f"n{at:02}") for at in range(inputs)]
            for at in range(1, inputs):
                cells.append(("and", len(cells) - 1 if at > 1 else 0, at))
            one = (tuple(cells), (("o", len(cells) - 1),))
            other = ((("one",), ("not", 0)), (("o", 1),))
            self.assertEqual(parting_number(one, other), 1)
            self.assertEqual(first_parting(one, other), (1,) * inputs)
            paper = alike_paper(one, other)
            self.assertEqual(paper, ("unlike", {f"n{at:02}": 1 for at in range(inputs)}, "o"))
            self.assertIs(is_alike_paper(one, other, ("unlike", {**paper[1], "n00": 0}, "o")), False)

    def test_names_of_either_net(self):
        one, other = ((X, Y, ("and", 0, 1)), (("o", 0),)), ((Z, X, ("not", 0), ("or", 0, 2)), (("o", 1),))
        paper = self.check_paper(one, other)
        self.assertEqual((paper[0], sorted(paper[1])), ("alike", ["x", "y", "z"]))
        self.check_paper(((("one",),), (("o", 0),)), ((X,), (("o", 0),)))
        self.check_paper(((), ()), ((), ()))
        self.check_paper(((X,), ()), ((Y,), ()))

    def test_judge_of_papers(self):
        paper = alike_paper(PLAIN, TURNED)
        word, names, table, nodes, more, joins = paper
        self.assertEqual(word, "alike")
        turned = names[::-1]
        swapped, told = table_of(turned, PLAIN)
        again, further = table_of(turned, TURNED)
        wrongs = [
            ("unlike", *paper[1:]), paper[:5], (*paper, ()), list(paper), (word, list(names), *paper[2:]),
            (word, names[:1], *paper[2:]), (word, names + ("w",), *paper[2:]), (word, turned, *paper[2:]),
            (word, names, table + ((0, 0, 2),) * 2, nodes, more, joins), (word, names, list(table), *paper[3:]),
            (word, names, table[:-1], nodes, more, joins), (word, names, table, nodes[:-1], more, joins),
            (word, names, table, nodes + (0,), more, joins), (word, names, table, more, nodes, joins),
            (word, names, table, list(nodes), more, joins), (word, names, table, nodes, more, list(joins)),
            (word, names, table, nodes, more, joins[::-1]), (word, names, table, nodes, more, joins + joins[-1:]),
            (word, names, table, nodes, more, tuple(sorted(joins + (("and", (0, 1), 0),)))),
            (word, names, table, nodes, more, tuple(sorted(joins + (("not", (1,), 0),)))),
            (word, names, table, nodes, more, joins + (("xor", (2, 2), 2),)),
            (word, names, table, nodes, more, joins + (("xor", (2, 2), 99),)),
            (word, names, table, nodes, more, joins + (("nor", (2, 2), 0),)),
            (word, names, table, nodes, more, joins + (("xor", (2,), 0),)),
            (word, names, table, nodes, more, joins + (("xor", [2, 2], 0),)),
            (word, names, table, nodes, more, joins + (["xor", (2, 2), 0],)),
            (word, names, table, nodes, more, joins + ((["xor"], (2, 2), 0),)),
            (word, names, table, nodes, more, ((None, (2, 2), 0),)),
            ["unlike", {"x": 0, "y": 0}, "o"], ("unlike", {"x": 0, "y": 0}, "o", 0), ("unlike", {"x": 2, "y": 0}, "o"),
            (word, names, table, nodes, more, None), (word, names, table, None, more, joins),
            (word, None, table, nodes, more, joins), (word, names, None, nodes, more, joins), (None, *paper[1:]),
            ("unlike", {"x": 0, "y": 0}, "o"), ("unlike", {"x": 0, "y": 0}, "p"), ("unlike", {"x": 0}, "o"),
        ]
        for index in range(len(joins)):
            wrongs.append((word, names, table, nodes, more, joins[:index] + joins[index + 1:]))
        # Further joins that stand do no harm.
        rights = [paper, (word, names, table, nodes, more, tuple(sorted(joins + (("xor", (2, 2), 0),)))),
                  (word, names, table + ((0, 1, 0),) if (0, 1, 0) not in table else table, nodes, more, joins)]
        check_judge(self, is_alike_paper, (PLAIN, TURNED), rights, wrongs)
        self.assertTrue(is_table(turned, swapped) and is_table(turned, again) and told and further)

    def test_each_wrong_node(self):
        for one, other in ((PLAIN, TURNED), (PLAIN, PLAIN)):
            paper = alike_paper(one, other)
            for part in (3, 4):
                for index, node in itertools.product(range(len(paper[part])), range(len(paper[2]) + 2)):
                    told = paper[part][:index] + (node,) + paper[part][index + 1:]
                    value = paper[:part] + (told,) + paper[part + 1:]
                    self.assertIs(is_alike_paper(one, other, value), value == paper)
            for index, node in itertools.product(range(len(paper[5])), range(len(paper[2]) + 2)):
                join = (*paper[5][index][:2], node)
                value = paper[:5] + (paper[5][:index] + (join,) + paper[5][index + 1:],)
                self.assertIs(is_alike_paper(one, other, value), value == paper)
                # Nor may the wrong one stand beside the right one.
                value = paper[:5] + (tuple(sorted({*paper[5], join})),)
                self.assertIs(is_alike_paper(one, other, value), value == paper)

    def test_rows_of_inputs_that_are_lacking(self):
        one = ((X, Y), (("o", 0),))
        self.assertIs(is_alike_paper(one, one, ("alike", ("x", "y"), ((0, 0, 1), (1, 0, 1)), (2, 3), (2, 3), ())), True)
        for table, nodes in (((), (0, 1)), (((0, 0, 1),), (2, 1)), (((0, 0, 1), (1, 1, 0)), (2, 3)),
                             (((0, 1, 0), (1, 0, 1)), (2, 3)), (((1, 0, 1), (0, 0, 1)), (2, 3))):
            self.assertIs(is_alike_paper(one, one, ("alike", ("x", "y"), table, nodes, nodes, ())), False)

    def test_parting_of_some_outputs(self):
        one, other = ((X, Y), (("a", 0), ("b", 0), ("c", 1))), ((X, Y), (("c", 1), ("a", 0), ("b", 1)))
        paper = alike_paper(one, other)
        self.assertEqual((paper[0], paper[2]), ("unlike", "b"))
        for bits in itertools.product((0, 1), repeat=2):
            for name in "abcd":
                value = ("unlike", dict(zip("xy", bits)), name)
                self.assertIs(is_alike_paper(one, other, value), name == "b" and bits[0] != bits[1])
            value = ("unlike", {"x": bits[0], "y": 2}, "b")
            self.assertIs(is_alike_paper(one, other, value), False)

    def test_papers_for_all_sequences_of_names(self):
        source = random_source(5)
        for _ in range(10):
            one = some_still(source, ("a", "b", "c"), 6, ("o",))
            other = rewritten(source, one)
            names = ("c", "a", "b")
            order = {"a": "b", "b": "c", "c": "a"}
            # A paper of renamed nets, with the names led back, has the names in another sequence.
            moved = [(tuple(("in", order[cell[1]]) if cell[0] == "in" else cell for cell in net[0]), net[1])
                     for net in (one, other)]
            paper = alike_paper(*moved)
            back = {name: told for told, name in order.items()}
            value = ("alike", tuple(back[name] for name in paper[1]), *paper[2:])
            self.assertEqual(value[1], names)
            self.assertIs(is_alike_paper(one, other, value), True)
            self.assertTrue(is_paper_by_words(one, other, value))

    def test_broken_likeness(self):
        # One node cannot be told to be another one's by joins that only stand on one another.
        source = random_source(6)
        for _ in range(40):
            one = some_still(source, ("a", "b"), 4, ("o",))
            other = some_still(source, ("a", "b"), 4, ("o",))
            paper = alike_paper(one, other)
            if paper[0] == "alike":
                continue
            table, nodes = table_of(("a", "b"), one)
            forged = alike_paper(one, one)
            for value in (("alike", ("a", "b"), table, nodes, nodes, forged[5]),
                          (*forged[:4], forged[3][:len(other[0])], forged[5])):
                self.assertIs(is_alike_paper(one, other, value), False)


class BoundsTest(unittest.TestCase):
    def wide(self, many, word):
        cells = [("in", f"n{at}") for at in range(many)]
        for at in range(1, many):
            cells.append((word, len(cells) - 1 if at > 1 else 0, at))
        return tuple(cells), (("o", len(cells) - 1),)

    def test_twelve_and_thirteen_names(self):
        for word, further in (("and", "or"), ("xor", "xor")):
            one, other = self.wide(12, word), self.wide(12, further)
            self.assertIs(is_alike_paper(one, other, alike_paper(one, other)), True)
            self.assertEqual(alike_paper(one, other)[0] == "alike", word == further)
        one, other = self.wide(13, "and"), self.wide(12, "and")
        for function in (alike_paper, parting_number, first_parting):
            expect(self, TooMany, 12, function, one, other)
            expect(self, TooMany, 12, function, other, one)
        filling = {f"n{at}": 1 for at in range(13)}
        self.assertIs(is_alike_paper(one, other, ("unlike", {**filling, "n12": 0}, "o")), True)
        self.assertIs(is_alike_paper(one, other, ("unlike", filling, "o")), False)
        self.assertIs(is_alike_paper(one, one, ("alike", tuple(filling), (), (), (), ())), False)

    def test_too_many_parts_or_joins(self):
        names = [f"n{at:02}" for at in range(12)]
        source = random_source(3)
        great = some_still(source, names, 2000, ("o",), words=("xor", "pick", "and", "xor"))
        expect(self, TooMany, 20000, alike_paper, great, great)
        # Alike or not makes no difference to that.
        expect(self, TooMany, 20000, alike_paper, great, ((("one",),), (("o", 0),)))
        # The parts may be few, and the joins too many: products of some names, and products of these.
        cells = [("in", name) for name in names]
        places = {1 << at: at for at in range(12)}
        for lot in range(1, 4096):
            if lot not in places:
                low = lot & -lot
                places[lot] = len(cells)
                cells.append(("and", places[low], places[lot - low]))
        few = (tuple(cells), (("o", 4094),))
        self.assertIs(is_alike_paper(few, few, alike_paper(few, few)), True)
        cells += [("one",), ("not", 4095)]
        while len(cells) < 6000:
            one, other = source.randrange(4095), source.randrange(4095)
            cells.append(source.choice((("and", one, other), ("pick", one, other, 4096))))
        joining = (tuple(cells), (("o", 4094),))
        self.assertEqual(len(table_of(tuple(names), joining)[0]), 4095)
        expect(self, TooMany, 20000, alike_paper, joining, joining)
        expect(self, TooMany, 20000, alike_paper, joining, few)

    def test_errors(self):
        wide = [(0, InvalidNet, NETS), (1, InvalidNet, NETS)]
        for function in (alike_paper, parting_number, first_parting):
            check_refused(self, function, (PLAIN, TURNED), wide)
            for other in ((PLAIN[0], ()), (PLAIN[0], (("p", 0),)), (PLAIN[0], (("o", 0), ("p", 0)))):
                expect(self, InvalidOperation, None, function, PLAIN, other)
                expect(self, InvalidOperation, None, function, other, PLAIN)
        for value in NETS:
            expect(self, InvalidNet, None, is_alike_paper, value, value, None)
            expect(self, InvalidNet, None, is_alike_paper, PLAIN, value, None)
        expect(self, InvalidOperation, None, is_alike_paper, PLAIN, (PLAIN[0], ()), None)
        thirteen = self.wide(13, "and")
        expect(self, InvalidOperation, None, alike_paper, thirteen, (thirteen[0], ()))

    def test_what_is_not_true(self):
        # Alike nets with unlike numbers of parts, and nets with equally many ones that are not alike.
        one, other = ((X, Y, ("and", 0, 1)), (("o", 0),)), ((X,), (("o", 0),))
        self.assertEqual(alike_paper(one, other)[0], "alike")
        self.assertNotEqual(len(table_of(("x", "y"), one)[0]), len(table_of(("x", "y"), other)[0]))
        for names in (("x", "y"), ("y", "x")):
            self.assertEqual(len(table_of(names, PLAIN)[0]), len(table_of(names, OTHER)[0]))
        self.assertEqual(alike_paper(PLAIN, OTHER)[0], "unlike")


if __name__ == "__main__":
    unittest.main()
