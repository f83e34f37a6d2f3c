"""Pieces of which nets are put together: each puts cells behind a list of cells that grows.

Rows are lists of the indices of cells, one for each bit, the lowest one first.
"""

ONE = 0
ZERO = 1


def fresh_cells():
    """The first cells of a net: those at ONE and at ZERO."""
    return [("one",), ("not", ONE)]


def put(cells, *cell):
    """Put a cell behind the others; its index."""
    cells.append(cell)
    return len(cells) - 1


def put_inputs(cells, name, size):
    """The row of the inputs for the bits of a word."""
    return [put(cells, "in", f"{name}.{bit}") for bit in range(size)]


def ports_for(name, row):
    """The outputs, or names and indices, for the bits of a word."""
    return [(f"{name}.{bit}", at) for bit, at in enumerate(row)]


def moved_row(row, side, places):
    """The row moved up or down by so many places, zeros coming in."""
    size = len(row)
    kept = min(places, size)
    if side == "left":
        return [ZERO] * kept + row[:size - kept]
    return row[kept:] + [ZERO] * kept


def put_each(cells, kind, ones, others):
    """The row of cells of one kind, bit by bit."""
    return [put(cells, kind, one, other) for one, other in zip(ones, others)]


def put_not_each(cells, row):
    """The row with each bit turned."""
    return [put(cells, "not", at) for at in row]


def put_pick(cells, chosen, ones, others):
    """The first row if the bit chosen is 1, else the other one; equal indices need no cell."""
    return [one if one == other else put(cells, "pick", chosen, one, other) for one, other in zip(ones, others)]


def put_fold(cells, kind, row):
    """All bits of a row that is not empty put together by one kind of cell."""
    found = row[0]
    for at in row[1:]:
        found = put(cells, kind, found, at)
    return found


def put_sum(cells, one, other, carry):
    """The sum of three bits: its lower bit and its higher one."""
    differ = put(cells, "xor", one, other)
    return put(cells, "xor", differ, carry), put(cells, "pick", differ, carry, one)


def put_add(cells, ones, others, carry):
    """The row of the sum of two rows and a carry, and the last carry."""
    found = []
    for one, other in zip(ones, others):
        bit, carry = put_sum(cells, one, other, carry)
        found.append(bit)
    return found, carry


def put_less(cells, ones, others):
    """The row of the difference of two rows, and whether something is borrowed behind the top bit."""
    found = []
    borrow = ZERO
    for one, other in zip(ones, others):
        differ = put(cells, "xor", one, other)
        found.append(put(cells, "xor", differ, borrow))
        # Where both are alike, what was borrowed below is borrowed on.
        borrow = put(cells, "pick", differ, other, borrow)
    return found, borrow


def put_below(cells, ones, others):
    """Whether the word of the first row is less."""
    borrow = ZERO
    for one, other in zip(ones, others):
        borrow = put(cells, "pick", put(cells, "xor", one, other), other, borrow)
    return borrow


def put_under(cells, ones, others):
    """Whether the signed number of the first row is less: both top bits change their rows."""
    return put_below(cells, ones[:-1] + others[-1:], others[:-1] + ones[-1:])
