"""Shapes of machines, and the fields of step words."""

from truebeat.base.checks import is_between, is_integer, is_tuple_of, is_word_of
from truebeat.base.words import check_number
from truebeat.errors import InvalidMemory, InvalidProgram, InvalidShape

MOST_WORDS = 256
NO_WORD = 65535
MOST_PLACES = 1000
LEAST_WIDTH = 4
MOST_WIDTH = 16
FIELDS = (15, 7, 7, 63)


class Shape:
    """How many bits the words of a machine have, and how many registers it has. It never changes."""

    def __init__(self, width, registers):
        if not is_between(width, LEAST_WIDTH, MOST_WIDTH):
            raise InvalidShape("this is no width of a machine")
        if not is_integer(registers) or registers not in (2, 4, 8):
            raise InvalidShape("this is no number of registers")
        self._width = int(width)
        self._registers = int(registers)

    @property
    def width(self):
        """The bits of a word."""
        return self._width

    @property
    def registers(self):
        """How many registers there are."""
        return self._registers

    def __eq__(self, other):
        return isinstance(other, Shape) and self._width == other._width and self._registers == other._registers

    def __str__(self):
        return f"shape of {self._width} bits, {self._registers} registers"


def check_shape(shape):
    """Refuse what is no shape."""
    if not isinstance(shape, Shape):
        raise InvalidShape("this is no shape")


def is_shape_word(shape, value):
    """Whether the value is a word of the shape."""
    return is_word_of(shape.width, value)


def check_step_word(word):
    """Refuse what is no step word."""
    check_number(word, 0, NO_WORD)


def check_program(program):
    """Refuse what is no program."""
    if not is_tuple_of(program, 1, MOST_WORDS) or not all([is_between(word, 0, NO_WORD) for word in program]):
        raise InvalidProgram("this is no program")


def check_memory(width, memory):
    """Refuse what is no memory for words of so many bits, or one with too many places."""
    if not isinstance(memory, dict) or len(memory) > MOST_PLACES:
        raise InvalidMemory("this is no memory, or it has too many places")
    words = [is_word_of(width, place) and is_word_of(width, memory[place]) for place in memory]
    if not all(words) or not all([memory[place] > 0 for place in memory]):
        raise InvalidMemory("a place or a word of this memory is none")


def word_at(program, place):
    """The step word that stands at a place."""
    return program[place] if place < len(program) else NO_WORD


def fields(word):
    """The fields op, a, b and c of a good step word."""
    return int(word) >> 12, word >> 9 & 7, word >> 6 & 7, word & 63


def fields_of(word):
    """The fields op, a, b and c of a step word."""
    check_step_word(word)
    return fields(word)


def word_of(op, a, b, c):
    """The step word with these fields."""
    for given, most in zip((op, a, b, c), FIELDS):
        check_number(given, 0, most)
    return int(op) << 12 | a << 9 | b << 6 | c


def is_long_kind(op, c):
    """Whether a step with these fields multiplies or divides."""
    return op == 15 and 4 <= c <= 6


def given_by(shape, word):
    """The register to which a step gives a word, 0 if it gives none."""
    check_shape(shape)
    check_step_word(word)
    op, a, _, c = fields(word)
    return a % shape.registers if op <= 10 or op == 14 or is_long_kind(op, c) else 0
