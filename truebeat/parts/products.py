"""Heaps of bits, the deeds that make them low, and products."""

from truebeat.base.checks import is_between, is_bit, is_index, is_pair, is_tuple_of, plainly_made
from truebeat.base.words import check_number, check_word
from truebeat.errors import InvalidOperation, InvalidPlan, Refused, TooMany
from truebeat.nets.wiring import fresh_cells, ports_for, put, put_inputs, put_sum

MAX_COLUMNS = 32
MAX_HEIGHT = 64
MAX_DEEDS = 2000
MAX_FACTOR = 16
TAKEN = {"three": 3, "two": 2}


def is_column(value):
    """Whether the value is a column of a heap."""
    return is_tuple_of(value, 0, MAX_HEIGHT) and all([is_bit(bit) for bit in value])


def check_heap(heap):
    """Refuse what is no heap."""
    if not is_tuple_of(heap, 1, MAX_COLUMNS) or not all([is_column(column) for column in heap]):
        raise InvalidOperation("this is no heap")


def is_deed(value, many):
    """Whether the value is a deed for so many columns."""
    return is_pair(value) and isinstance(value[0], str) and value[0] in TAKEN and is_index(value[1], many)


def are_deeds(value, many):
    """Whether the value is deeds for so many columns."""
    return is_tuple_of(value, 0, MAX_DEEDS) and all([is_deed(deed, many) for deed in value])


def check_deeds(deeds, many):
    """Refuse what is no deeds for so many columns."""
    if not are_deeds(deeds, many):
        raise InvalidPlan("these are no deeds for so many columns")


def first_refused(heights, deeds):
    """The index of the first deed whose column has too few bits, `None` if there is none, and the heights behind."""
    behind = list(heights)
    for index, (word, column) in enumerate(deeds):
        if behind[column] < TAKEN[word]:
            return index, behind
        behind[column] -= TAKEN[word] - 1
        if column + 1 < len(behind):
            behind[column + 1] += 1
    return None, behind


def check_doable(heights, deeds):
    """Refuse deeds of which one finds too few bits."""
    index, _ = first_refused(heights, deeds)
    if index is not None:
        raise Refused(("few", index))


def worth(heap):
    """The sum of all bits, each as its column counts."""
    check_heap(heap)
    return sum([sum(column) << at for at, column in enumerate(heap)]) % (1 << len(heap))


def heap_behind(heap, deeds):
    """The heap that the deeds leave."""
    check_heap(heap)
    check_deeds(deeds, len(heap))
    check_doable([len(column) for column in heap], deeds)
    columns = [list(column) for column in heap]
    for word, at in deeds:
        total = sum(columns[at][:TAKEN[word]])
        columns[at] = columns[at][TAKEN[word]:] + [total % 2]
        if at + 1 < len(columns):
            columns[at + 1].append(total // 2)
    if max([len(column) for column in columns]) > MAX_HEIGHT:
        raise TooMany(MAX_HEIGHT)
    return plainly_made(tuple([tuple(column) for column in columns]))


def check_heights(heights, most):
    """Refuse wrong heights, then a wrong greatest height."""
    if not is_tuple_of(heights, 1, MAX_COLUMNS) or not all([is_between(many, 0, MAX_HEIGHT) for many in heights]):
        raise InvalidOperation("these are no heights of columns")
    check_number(most, 1, 2)


def needed_deeds(heights, most):
    """How many deeds each column needs, going up from the lowest one."""
    needed = []
    below = 0
    for many in heights:
        # The least number that takes twice itself away from what the column gets.
        below = (max(0, many + below - most) + 1) // 2
        needed.append(below)
    return needed


def fewest_deeds(heights, most):
    """The least number of deeds that leave at most so many bits in each column."""
    check_heights(heights, most)
    return sum(needed_deeds(heights, most))


def lowering_deeds(heights, most):
    """The fewest deeds that leave at most so many bits in each column, as a list."""
    deeds = []
    below = 0
    for column, needed in enumerate(needed_deeds(heights, most)):
        many = heights[column] + below
        for _ in range(needed):
            word = "three" if many > 2 else "two"
            deeds.append((word, column))
            many -= TAKEN[word] - 1
        below = needed
    return deeds


def low_deeds(heights, most):
    """The fewest deeds that leave at most so many bits in each column."""
    check_heights(heights, most)
    return tuple(lowering_deeds(heights, most))


def are_low_deeds(heights, most, value):
    """Whether the value is the fewest deeds that leave at most so many bits in each column."""
    check_heights(heights, most)
    if not are_deeds(value, len(heights)) or len(value) != sum(needed_deeds(heights, most)):
        return False
    index, behind = first_refused(heights, value)
    return index is None and max(behind) <= most


def product_heap(size, one, other):
    """The heap of the bits that are 1 where a bit of both words is."""
    check_number(size, 1, MAX_FACTOR)
    check_word(size, one)
    check_word(size, other)
    return tuple([tuple([(one >> at) & (other >> (column - at)) & 1 for at in range(column + 1)])
                  for column in range(size)])


def put_deed(cells, columns, deed):
    """Do a deed on columns of the indices of cells."""
    word, at = deed
    if word == "three":
        one, other, third = columns[at][:3]
        low, high = put_sum(cells, one, other, third)
    else:
        one, other = columns[at][:2]
        low, high = put(cells, "xor", one, other), put(cells, "and", one, other)
    columns[at] = columns[at][TAKEN[word]:] + [low]
    if at + 1 < len(columns):
        columns[at + 1].append(high)


def product_net(size, deeds):
    """A net that multiplies by the deeds, and by further ones that leave one bit in each column."""
    check_number(size, 1, MAX_FACTOR)
    check_deeds(deeds, size)
    heights = [column + 1 for column in range(size)]
    check_doable(heights, deeds)
    cells = fresh_cells()
    ones, others = put_inputs(cells, "x", size), put_inputs(cells, "y", size)
    columns = [[put(cells, "and", ones[at], others[column - at]) for at in range(column + 1)]
               for column in range(size)]
    for deed in deeds:
        put_deed(cells, columns, deed)
    for deed in lowering_deeds([len(column) for column in columns], 1):
        put_deed(cells, columns, deed)
    return tuple(cells), tuple(ports_for("s", [column[0] for column in columns]))
