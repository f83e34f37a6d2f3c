"""Words of 1 to 32 bits, and what is reckoned with them."""

from truebeat.base.checks import is_between, is_bit, is_integer, is_pair, is_tuple_of, is_word_of, own_value
from truebeat.errors import InvalidNumber, InvalidOperation, Refused, TooMany

MAX_WIDTH = 32
MAX_PLACES = 63


def check_number(value, least, most):
    """Refuse what is no integer from the least to the most."""
    if not is_between(value, least, most):
        raise InvalidNumber(own_value(value))


def check_width(width):
    """Refuse what is no width."""
    check_number(width, 1, MAX_WIDTH)


def check_word(width, word):
    """Refuse what is no word of the width, a good one."""
    check_number(word, 0, (1 << width) - 1)


def check_one(width, word):
    """Refuse a wrong width, then a wrong word."""
    check_width(width)
    check_word(width, word)


def check_two(width, one, other):
    """Refuse a wrong width, then wrong words."""
    check_one(width, one)
    check_word(width, other)


def is_word(width, value):
    """Whether the value is a word of the width."""
    check_width(width)
    return is_word_of(width, value)


def bits_of_word(width, word):
    """The bits of a word, the lowest one first."""
    check_one(width, word)
    return tuple([word >> at & 1 for at in range(width)])


def word_of_bits(bits):
    """The word with these bits, the lowest one first."""
    if not is_tuple_of(bits, 1, MAX_WIDTH) or not all([is_bit(bit) for bit in bits]):
        raise InvalidOperation("these are no 1 to 32 bits")
    return sum([bit << at for at, bit in enumerate(bits)])


def wrapped(width, number):
    """The word of an integer modulo the width."""
    check_width(width)
    if not is_integer(number):
        raise InvalidNumber(own_value(number))
    return number % (1 << width)


def signed(width, word):
    """The signed number of a word."""
    check_one(width, word)
    return word - ((word >> (width - 1)) << width)


def carries(width, one, other, *, first=0):
    """The carries into each bit of a sum, and behind the top one."""
    check_two(width, one, other)
    check_number(first, 0, 1)
    row = [int(first)]
    for at in range(width):
        row.append(((one >> at & 1) + (other >> at & 1) + row[at]) // 2)
    return tuple(row)


def added(width, one, other, *, first=0):
    """The sum of two words and a first carry, with the last carry."""
    check_two(width, one, other)
    check_number(first, 0, 1)
    total = one + other + first
    return total % (1 << width), total >> width


def lessened(width, one, other):
    """The difference modulo the width, and 1 if nothing had to be borrowed."""
    check_two(width, one, other)
    return (one - other) % (1 << width), 1 if one >= other else 0


def is_below(width, one, other):
    """Whether the first word is less."""
    check_two(width, one, other)
    return one < other


def is_under(width, one, other):
    """Whether the signed number of the first word is less."""
    return signed(width, one) < signed(width, other)


def multiplied(width, one, other):
    """The low and the high word of a product."""
    check_two(width, one, other)
    product = one * other
    return product % (1 << width), product >> width


def divided(width, one, other):
    """The quotient and the rest."""
    check_two(width, one, other)
    if other == 0:
        raise Refused(("divide",))
    return one // other, one % other


def moved_left(width, word, places):
    """The word with its bits moved up, those beyond the top one lost."""
    check_one(width, word)
    check_number(places, 0, MAX_PLACES)
    return (word << places) % (1 << width)


def moved_right(width, word, places):
    """The word with its bits moved down, those below the lowest one lost."""
    check_one(width, word)
    check_number(places, 0, MAX_PLACES)
    return word >> places


def cut(width, word, low, many):
    """The word of so many bits, from the bit `low` up."""
    check_one(width, word)
    check_number(low, 0, width - 1)
    check_number(many, 1, width - low)
    return (word >> low) % (1 << many)


def is_part(value):
    """Whether the value is a pair of a width and a word of it."""
    return is_pair(value) and is_between(value[0], 1, MAX_WIDTH) and is_word_of(value[0], value[1])


def put_together(parts):
    """The width and the word of words put one behind the other, the lowest one first."""
    if not isinstance(parts, tuple) or len(parts) == 0 or not all([is_part(part) for part in parts]):
        raise InvalidOperation("these are no pairs of a width and a word of it")
    if sum([part[0] for part in parts]) > MAX_WIDTH:
        raise TooMany(MAX_WIDTH)
    width, word = 0, 0
    for wide, bits in parts:
        word += bits << width
        width += wide
    return width, word


def widened(width, word, wider):
    """The word of more bits with zeros ahead."""
    check_one(width, word)
    check_number(wider, width, MAX_WIDTH)
    return word % (1 << wider)


def lengthened(width, word, wider):
    """The word of more bits with the same signed number."""
    check_one(width, word)
    check_number(wider, width, MAX_WIDTH)
    return signed(width, word) % (1 << wider)
