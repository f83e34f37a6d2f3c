"""Nets that the tests make, and plain trials of them that use nothing of the package."""

import itertools

ARITY = {"one": 0, "not": 1, "and": 2, "or": 2, "xor": 2, "pick": 3}
GATES = ("not", "and", "or", "xor", "pick")
BIT = (0, 1)


def gate(word, bits):
    """The bit of a gate by the bits at which it looks."""
    if word == "one":
        return 1
    if word == "not":
        return 1 - bits[0]
    if word == "pick":
        return bits[1] if bits[0] == 1 else bits[2]
    return {"and": bits[0] & bits[1], "or": bits[0] | bits[1], "xor": bits[0] ^ bits[1]}[word]


def looks_at(cell):
    return cell[1:] if cell[0] in ARITY else ()


def plain_values(cells, state, given):
    """The bits of all cells in a beat."""
    bits = []
    for cell in cells:
        if cell[0] == "in":
            bits.append(given[cell[1]])
        elif cell[0] == "keep":
            bits.append(state[cell[1]])
        else:
            bits.append(gate(cell[0], [bits[at] for at in cell[1:]]))
    return bits


def plain_beat(net, state, given):
    """The dict of the outputs of a beat, and the state behind it."""
    bits = plain_values(net[0], state, given)
    behind = {cell[1]: bits[cell[3]] for cell in net[0] if cell[0] == "keep"}
    return {name: bits[at] for name, at in net[1]}, behind


def names_of(net, word):
    return [cell[1] for cell in net[0] if cell[0] == word]


def fillings(names):
    """All fillings of the names, ascending."""
    return [dict(zip(names, bits)) for bits in itertools.product(BIT, repeat=len(names))]


def some_gate(source, many, words=GATES):
    word = source.choice(words)
    return (word, *[source.randrange(many) for _ in range(ARITY[word])])


def some_still(source, inputs, gates, outputs=(), words=GATES):
    """A still net of so many inputs and gates; the outputs are any cells."""
    cells = [("in", name) for name in inputs] + ([("one",)] if source.randrange(3) == 0 or not inputs else [])
    for _ in range(gates):
        cells.append(some_gate(source, len(cells), words))
    return tuple(cells), tuple((name, source.randrange(len(cells))) for name in outputs)


def some_clocked(source, inputs, keepers, gates, outputs=(), firsts=BIT):
    """A net of so many inputs, keepers and gates, anywhere among one another."""
    ahead = [("in", name) for name in inputs] + [("keep", name, source.choice(firsts)) for name in keepers]
    source.shuffle(ahead)
    cells = [("one",)]
    for _ in range(gates + len(ahead)):
        if ahead and source.randrange(gates + len(ahead)) < 2 * len(ahead):
            cells.append(ahead.pop())
        else:
            cells.append(some_gate(source, len(cells)))
    cells += ahead
    fed = tuple((*cell, source.randrange(len(cells))) if cell[0] == "keep" else cell for cell in cells)
    return fed, tuple((name, source.randrange(len(fed))) for name in outputs)


def functions(net, names):
    """For each cell of a still net the tuple of its bits at all fillings of the names."""
    columns = [plain_values(net[0], {}, filling) for filling in fillings(names)]
    return [tuple(column[at] for column in columns) for at in range(len(net[0]))]


def parts(bit_rows, many):
    """The unlike functions, not constant, that come of functions of so many names when the first ones are set."""
    found, level = set(), set(bit_rows)
    for _ in range(many + 1):
        found |= {(row, len(row)) for row in level if len(set(row)) > 1}
        level = {half for row in level for half in (row[:len(row) // 2], row[len(row) // 2:])}
    # A function of fewer names is the same as one that does not hang on the names ahead.
    return {widest(row, many) for row, _ in found}


def widest(row, many):
    """The function of the last names as one of so many names."""
    return row * ((1 << many) // len(row))
