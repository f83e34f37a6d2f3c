"""Shifts in rounds, and the nets made by them."""

from truebeat.base.checks import is_between, is_index, is_pair, is_tuple_of, is_word_of, own_value
from truebeat.base.words import check_number, check_word
from truebeat.errors import InvalidPlan, UnknownName
from truebeat.nets.wiring import fresh_cells, moved_row, ports_for, put_inputs, put_pick

MAX_SHIFTED = 32
MAX_AMOUNT = 6
MAX_ROUNDS = 24
MAX_BY = 64
SIDES = ("left", "right")


def is_shift_round(value, many):
    """Whether the value is a round for amounts of so many bits."""
    return is_pair(value) and is_index(value[0], many) and is_between(value[1], 0, MAX_BY)


def check_rounds(size, side, many, rounds):
    """Refuse, in this sequence, a wrong size, side, number of bits of the amount, and wrong rounds."""
    check_number(size, 1, MAX_SHIFTED)
    if side not in SIDES:
        raise UnknownName(own_value(side))
    check_number(many, 1, MAX_AMOUNT)
    if not is_tuple_of(rounds, 0, MAX_ROUNDS) or not all([is_shift_round(pair, many) for pair in rounds]):
        raise InvalidPlan("these are no rounds for such amounts")


def plain_rounds(many):
    """The rounds that move by each bit of the amount just once."""
    check_number(many, 1, MAX_AMOUNT)
    return tuple([(bit, 1 << bit) for bit in range(many)])


def moved(size, side, word, places):
    """The word moved by so many places, zeros coming in."""
    return (word << places) % (1 << size) if side == "left" else word >> places


def moved_in_rounds(size, side, rounds, word, amount):
    """The word moved by those rounds whose bit of the amount is 1."""
    # Zeros come in at each round, so the places of all rounds add up.
    places = sum([by for bit, by in rounds if amount >> bit & 1 == 1])
    return moved(size, side, word, places)


def moved_by(size, side, many, rounds, word, amount):
    """The word moved by those rounds whose bit of the amount is 1."""
    check_rounds(size, side, many, rounds)
    check_word(size, word)
    check_word(many, amount)
    return moved_in_rounds(size, side, rounds, word, amount)


def rounds_paper(size, side, many, rounds):
    """`None` for rounds that shift, else a word and an amount that they move wrongly."""
    check_rounds(size, side, many, rounds)
    for bit in range(many):
        places = sum([by for at, by in rounds if at == bit])
        if places != 1 << bit and min(places, 1 << bit) < size:
            # The bit that is moved farthest before it is lost tells any two numbers of places apart.
            farthest = 1 if side == "left" else 1 << (size - 1)
            return farthest, 1 << bit
    return None


def is_rounds_paper(size, side, many, rounds, value):
    """Whether the value is a word and an amount that the rounds move wrongly."""
    check_rounds(size, side, many, rounds)
    if not is_pair(value) or not is_word_of(size, value[0]) or not is_word_of(many, value[1]):
        return False
    word, amount = value
    return moved_in_rounds(size, side, rounds, word, amount) != moved(size, side, word, amount)


def shift_net(size, side, many, rounds):
    """A net that moves a word by an amount as the rounds do."""
    check_rounds(size, side, many, rounds)
    cells = fresh_cells()
    row, keys = put_inputs(cells, "x", size), put_inputs(cells, "k", many)
    for bit, by in rounds:
        row = put_pick(cells, keys[bit], moved_row(row, side, by), row)
    return tuple(cells), tuple(ports_for("s", row))
