"""How the lines of sheets are laid.

Each function of the table LAYERS puts the cells of a line behind the others, and tells the row of
its bits. None takes more cells than the line weighs.
"""

from truebeat.nets.wiring import ONE, ZERO, fresh_cells, moved_row, put, put_add, put_below, put_each, put_fold
from truebeat.nets.wiring import put_inputs, put_less, put_not_each, put_pick, put_under


class Laying:
    """What is laid so far: the cells, the rows of the lines, and the divisions by their two lines."""

    def __init__(self):
        self.cells = fresh_cells()
        self.rows = []
        self.divisions = {}


def lay_input(laying, line):
    return put_inputs(laying.cells, line[1], line[2])


def lay_told(laying, line):
    return [ONE if line[2] >> bit & 1 == 1 else ZERO for bit in range(line[1])]


def lay_cut(laying, line):
    return laying.rows[line[1]][line[2]:line[2] + line[3]]


def lay_join(laying, line):
    return [at for part in line[1:] for at in laying.rows[part]]


def lay_wide(laying, line):
    row = laying.rows[line[1]]
    return row + [ZERO] * (line[2] - len(row))


def lay_long(laying, line):
    row = laying.rows[line[1]]
    return row + row[-1:] * (line[2] - len(row))


def lay_not(laying, line):
    return put_not_each(laying.cells, laying.rows[line[1]])


def lay_gates(laying, line):
    return put_each(laying.cells, line[0], laying.rows[line[1]], laying.rows[line[2]])


def lay_add(laying, line):
    found, _ = put_add(laying.cells, laying.rows[line[1]], laying.rows[line[2]], ZERO)
    return found


def lay_less_by(laying, line):
    found, _ = put_less(laying.cells, laying.rows[line[1]], laying.rows[line[2]])
    return found


def lay_same(laying, line):
    differ = put_each(laying.cells, "xor", laying.rows[line[1]], laying.rows[line[2]])
    return [put(laying.cells, "not", put_fold(laying.cells, "or", differ))]


def lay_below(laying, line):
    return [put_below(laying.cells, laying.rows[line[1]], laying.rows[line[2]])]


def lay_under(laying, line):
    return [put_under(laying.cells, laying.rows[line[1]], laying.rows[line[2]])]


def lay_any(laying, line):
    return [put_fold(laying.cells, "or", laying.rows[line[1]])]


def lay_all(laying, line):
    return [put_fold(laying.cells, "and", laying.rows[line[1]])]


def lay_pick(laying, line):
    return put_pick(laying.cells, laying.rows[line[1]][0], laying.rows[line[2]], laying.rows[line[3]])


def lay_choose(laying, line):
    key = laying.rows[line[1]]
    rows = [laying.rows[at] for at in line[2]]
    last = rows[-1]
    used = 0
    while len(rows) > 1 and used < len(key):
        # Behind the rows there is always the last line again, at whatever bit of the key.
        padded = rows + [last] * (len(rows) % 2)
        rows = [put_pick(laying.cells, key[used], padded[at + 1], padded[at]) for at in range(0, len(padded), 2)]
        used += 1
    if used == len(key) or rows[0] == last:
        return rows[0]
    return put_pick(laying.cells, put_fold(laying.cells, "or", key[used:]), last, rows[0])


def lay_move(laying, line):
    row = laying.rows[line[1]]
    for bit, key in enumerate(laying.rows[line[2]]):
        row = put_pick(laying.cells, key, moved_row(row, line[0], 1 << bit), row)
    return row


def lay_times(laying, line):
    ones, others = laying.rows[line[1]], laying.rows[line[2]]
    found = put_each(laying.cells, "and", [ones[0]] * len(others), others)
    for low in range(1, len(ones)):
        part = [put(laying.cells, "and", ones[low], other) for other in others[:len(others) - low]]
        high, _ = put_add(laying.cells, found[low:], part, ZERO)
        found = found[:low] + high
    return found


def put_division(cells, ones, others):
    """The rows of the quotient and of the rest, reckoned from the top bit down."""
    quotient = []
    rest = [ZERO] * len(ones)
    for one in ones[::-1]:
        doubled = [one] + rest
        less, borrow = put_less(cells, doubled[:-1], others)
        fits = put(cells, "or", doubled[-1], put(cells, "not", borrow))
        rest = put_pick(cells, fits, less, doubled[:-1])
        quotient.append(fits)
    return quotient[::-1], rest


def lay_division(laying, line):
    if line[1:] not in laying.divisions:
        division = put_division(laying.cells, laying.rows[line[1]], laying.rows[line[2]])
        laying.divisions[line[1:]] = division
    quotient, rest = laying.divisions[line[1:]]
    return quotient if line[0] == "part" else rest


def lay_keep(laying, line):
    # What feeds it may not be laid yet: it feeds itself until all lines are laid.
    firsts = [None if line[3] is None else line[3] >> bit & 1 for bit in range(line[2])]
    return [put(laying.cells, "keep", f"{line[1]}.{bit}", first, len(laying.cells))
            for bit, first in enumerate(firsts)]


LAYERS = {
    "in": lay_input, "told": lay_told, "cut": lay_cut, "join": lay_join, "wide": lay_wide, "long": lay_long,
    "not": lay_not, "and": lay_gates, "or": lay_gates, "xor": lay_gates, "add": lay_add, "less_by": lay_less_by,
    "same": lay_same, "below": lay_below, "under": lay_under, "any": lay_any, "all": lay_all,
    "pick": lay_pick, "choose": lay_choose, "left": lay_move, "right": lay_move,
    "times": lay_times, "part": lay_division, "rest": lay_division, "keep": lay_keep,
}


def feed(laying, lines):
    """Feed each keeper by the bits of its line."""
    for line, row in zip(lines, laying.rows):
        if line[0] == "keep":
            for keeper, at in zip(row, laying.rows[line[4]]):
                laying.cells[keeper] = (*laying.cells[keeper][:3], at)


def laid_lines(lines):
    """The cells of all lines, and the rows of these."""
    laying = Laying()
    for line in lines:
        put_line = LAYERS[line[0]]
        laying.rows.append(put_line(laying, line))
    feed(laying, lines)
    return laying.cells, laying.rows
