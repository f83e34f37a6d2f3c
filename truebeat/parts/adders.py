"""Adders: plans of joins that tell the carries, and the nets made by them."""

from truebeat.base.checks import is_bit, is_index, is_pair, is_tuple_of, is_word_of, own_value
from truebeat.base.words import carries, check_number, check_word
from truebeat.errors import InvalidPlan, UnknownName
from truebeat.nets.wiring import ONE, ZERO, fresh_cells, ports_for, put, put_add, put_each, put_inputs, put_pick
from truebeat.sheets.lay import lay

MAX_ADDED = 32
MAX_JOINS = 400
PLANS = ("row", "halves", "doubling", "ladder")


def check_size(size):
    """Refuse what is no number of places."""
    check_number(size, 1, MAX_ADDED)


def steps_below(size):
    """The numbers 1, 2, 4, .. below the size."""
    return [1 << bit for bit in range(6) if 1 << bit < size]


def add_join(joins, here, place, low):
    """Put a join of what is here at the place and of a lower piece behind the others."""
    joins.append((here[place], low))
    here[place] = len(here) + len(joins) - 1


def join_row(joins, here):
    """Each place with the one below."""
    for place in range(1, len(here)):
        add_join(joins, here, place, here[place - 1])


def join_halves(joins, here):
    """Each upper half with the top of the lower half."""
    for step in steps_below(len(here)):
        for place in range(len(here)):
            if place // step % 2 == 1:
                add_join(joins, here, place, here[place // step * step - 1])


def join_doubling(joins, here):
    """Each place with the one so many below, as both were ahead of the step."""
    for step in steps_below(len(here)):
        ahead = list(here)
        for place in range(step, len(here)):
            add_join(joins, here, place, ahead[place - step])


def join_ladder(joins, here):
    """Up by doubled steps, and then the places between them down again."""
    steps = steps_below(len(here))
    for step in steps:
        for place in range(2 * step - 1, len(here), 2 * step):
            add_join(joins, here, place, here[place - step])
    for step in steps[::-1]:
        for place in range(3 * step - 1, len(here), 2 * step):
            add_join(joins, here, place, here[place - step])


JOININGS = {"row": join_row, "halves": join_halves, "doubling": join_doubling, "ladder": join_ladder}


def plan_of(kind, size):
    """The plan of this kind."""
    if not isinstance(kind, str) or kind not in JOININGS:
        raise UnknownName(own_value(kind))
    check_size(size)
    joins = []
    here = list(range(size))
    put_joins = JOININGS[kind]
    put_joins(joins, here)
    return tuple(joins), tuple(here)


def is_join(value, many):
    """Whether the value is a pair of pieces ahead, of which there are so many."""
    return is_pair(value) and is_index(value[0], many) and is_index(value[1], many)


def is_plan(size, value):
    """Whether the value is a plan."""
    check_size(size)
    if not is_pair(value) or not is_tuple_of(value[0], 0, MAX_JOINS) or not is_tuple_of(value[1], size, size):
        return False
    joins, outs = value
    if not all([is_join(pair, size + at) for at, pair in enumerate(joins)]):
        return False
    return all([is_index(piece, size + len(joins)) for piece in outs])


def check_plan(size, plan):
    """Refuse a wrong size, then a wrong plan."""
    if not is_plan(size, plan):
        raise InvalidPlan("this is no plan for so many places")


def rows_found(size, plan):
    """The rows of all pieces."""
    rows = [(place,) for place in range(size)]
    for high, low in plan[0]:
        there = {place: True for place in rows[high]}
        rows.append(rows[high] + tuple([place for place in rows[low] if place not in there]))
    return rows


def row_of(size, plan, piece):
    """The row of a piece."""
    check_plan(size, plan)
    check_number(piece, 0, size + len(plan[0]) - 1)
    return rows_found(size, plan)[piece]


def plan_depth(size, plan):
    """The greatest depth of the outs."""
    check_plan(size, plan)
    joins, outs = plan
    deep = [0] * size
    for high, low in joins:
        deep.append(max(deep[high], deep[low]) + 1)
    return max([deep[piece] for piece in outs])


def carries_told(size, plan, one, other, carry):
    """The carries that a plan tells for good words and a first carry."""
    joins, outs = plan
    makes = [(one & other) >> place & 1 for place in range(size)]
    hands = [(one ^ other) >> place & 1 for place in range(size)]
    for high, low in joins:
        makes.append(makes[high] | (hands[high] & makes[low]))
        hands.append(hands[high] & hands[low])
    return tuple([makes[piece] | (hands[piece] & carry) for piece in outs])


def carries_by(size, plan, one, other, carry):
    """The carries that the plan tells behind all places."""
    check_plan(size, plan)
    check_word(size, one)
    check_word(size, other)
    check_number(carry, 0, 1)
    return carries_told(size, plan, one, other, carry)


def paper_for(place, row):
    """A paper against the row of an out, `None` if it is the right one."""
    right = tuple(range(place, -1, -1))
    if row == right:
        return None
    shared = 0
    while shared < min(len(row), len(right)) and row[shared] == right[shared]:
        shared += 1
    # What both rows share hands on; of the next two places that of one row makes a carry, the other one stops it.
    makes = right[shared] if shared < len(right) else row[shared]
    hand = sum([1 << at for at in right[:shared]])
    return place, hand | (1 << makes), 1 << makes, 0


def plan_paper(size, plan):
    """`None` for an adder, else a paper of a carry that is told wrongly."""
    check_plan(size, plan)
    rows = rows_found(size, plan)
    for place, piece in enumerate(plan[1]):
        paper = paper_for(place, rows[piece])
        if paper is not None:
            return paper
    return None


def is_plan_paper(size, plan, value):
    """Whether the value is a paper of a carry that is told wrongly."""
    check_plan(size, plan)
    if not is_tuple_of(value, 4, 4):
        return False
    place, one, other, carry = value
    if not is_index(place, size) or not is_word_of(size, one) or not is_word_of(size, other) or not is_bit(carry):
        return False
    right = carries(size, one, other, first=carry)
    return carries_told(size, plan, one, other, carry)[place] != right[place + 1]


def first_alike(size, plan):
    """For each piece the first one with its row."""
    firsts = {}
    leads = []
    for piece, row in enumerate(rows_found(size, plan)):
        if row not in firsts:
            firsts[row] = piece
        leads.append(firsts[row])
    return leads


def merged(size, plan):
    """The plan with one piece for each row, and without joins on which no out hangs."""
    check_plan(size, plan)
    leads = first_alike(size, plan)
    joins = [(leads[high], leads[low]) for high, low in plan[0]]
    outs = [leads[piece] for piece in plan[1]]
    wanted = {piece: True for piece in outs}
    for at in range(len(joins) - 1, -1, -1):
        if size + at in wanted:
            wanted[joins[at][0]] = True
            wanted[joins[at][1]] = True
    places = {place: place for place in range(size)}
    kept = [at for at in range(len(joins)) if size + at in wanted]
    for many, at in enumerate(kept):
        places[size + at] = size + many
    fresh = [(places[joins[at][0]], places[joins[at][1]]) for at in kept]
    return tuple(fresh), tuple([places[piece] for piece in outs])


def put_told(cells, size, plan, sides, carry):
    """The cells of the carries that a plan tells, the row of what hands on, and the row of these carries."""
    hands = put_each(cells, "xor", sides[0], sides[1])
    makes = put_each(cells, "and", sides[0], sides[1])
    every = list(hands)
    for high, low in plan[0]:
        makes.append(put(cells, "or", makes[high], put(cells, "and", every[high], makes[low])))
        every.append(put(cells, "and", every[high], every[low]))
    told = [put(cells, "or", makes[piece], put(cells, "and", every[piece], carry)) for piece in plan[1]]
    return hands, told


def put_sides(cells, size):
    """The rows of both words that are added, and the index of the first carry."""
    ones, others = put_inputs(cells, "x", size), put_inputs(cells, "y", size)
    return (ones, others), put(cells, "in", "c.0")


def adder_net(size, plan):
    """A net that adds by the plan."""
    check_plan(size, plan)
    cells = fresh_cells()
    sides, carry = put_sides(cells, size)
    hands, told = put_told(cells, size, plan, sides, carry)
    found = put_each(cells, "xor", hands, [carry] + told[:-1])
    return tuple(cells), (*ports_for("s", found), ("out.0", told[-1]))


def picked_net(size, block):
    """A net that adds, made of blocks that are reckoned for both carries."""
    check_size(size)
    check_number(block, 1, size)
    cells = fresh_cells()
    sides, carry = put_sides(cells, size)
    found = []
    for low in range(0, size, block):
        ones, others = sides[0][low:low + block], sides[1][low:low + block]
        without, last_without = put_add(cells, ones, others, ZERO)
        beside, last_beside = put_add(cells, ones, others, ONE)
        chosen = put_pick(cells, carry, beside + [last_beside], without + [last_without])
        found = found + chosen[:-1]
        carry = chosen[-1]
    return tuple(cells), (*ports_for("s", found), ("out.0", carry))


def compared_net(size):
    """A net that compares two words."""
    check_size(size)
    lines = (("in", "x", size), ("in", "y", size), ("below", 0, 1), ("under", 0, 1), ("same", 0, 1))
    return lay((lines, (("below", 2), ("under", 3), ("same", 4))))
