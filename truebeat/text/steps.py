"""Texts of step words."""

from truebeat.base.checks import is_between
from truebeat.errors import ParseError
from truebeat.plain.deeds import far_number, near_number
from truebeat.plain.shapes import check_step_word, fields, word_of
from truebeat.text.pieces import number_in

NAMES = (
    "add", "sub", "and", "or", "xor", "less", "left", "right", "plus", "set", "load", "store", "same", "under", "jump",
)
SPECIAL = ("end", "put", "back", "allow", "times", "part", "rest")
SPECIAL_OP = 15
SET_OP = 9
NUMBER = (0, 7)
THIRD = (0, 63)
NEAR = (-32, 31)
FAR = (-256, 255)
OTHERS = (61440, 65535)


def pieces_of(word):
    """The pieces of the text of a good step word: its name and its numbers."""
    op, a, b, c = fields(word)
    if op == SPECIAL_OP:
        return (SPECIAL[c], a, b) if c < len(SPECIAL) else ("word", int(word))
    if op < 8:
        return NAMES[op], a, b, c
    return (NAMES[op], a, far_number(word)) if op == SET_OP else (NAMES[op], a, b, near_number(word))


def write_step(word):
    """The text of a step word."""
    check_step_word(word)
    return " ".join([str(piece) for piece in pieces_of(word)])


def bounds_for(name):
    """The bounds of the numbers behind a name, `None` if it is no name."""
    if name == "word":
        return (OTHERS,)
    if name in SPECIAL:
        return NUMBER, NUMBER
    if name not in NAMES:
        return None
    op = NAMES.index(name)
    if op == SET_OP:
        return NUMBER, FAR
    return NUMBER, NUMBER, THIRD if op < 8 else NEAR


def step_by(name, numbers):
    """The step word with a name and good numbers."""
    if name == "word":
        return numbers[0]
    if name in SPECIAL:
        return word_of(SPECIAL_OP, numbers[0], numbers[1], SPECIAL.index(name))
    op = NAMES.index(name)
    if op == SET_OP:
        return op << 12 | numbers[0] << 9 | numbers[1] & 511
    return word_of(op, numbers[0], numbers[1], numbers[2] & 63)


def can_stand(name, number, bounds):
    """Whether a number behind a name is within its bounds, and not of a word that has another name."""
    if number is None or not is_between(number, bounds[0], bounds[1]):
        return False
    return name != "word" or pieces_of(number)[0] == "word"


def read_step(text):
    """The step word with just this text."""
    if not isinstance(text, str):
        raise ParseError(None)
    pieces = text.split(" ")
    bounds = bounds_for(pieces[0])
    if "" in pieces or bounds is None:
        raise ParseError(0)
    numbers = []
    for index, piece in enumerate(pieces[1:], 1):
        number = number_in(piece)
        if index > len(bounds) or not can_stand(pieces[0], number, bounds[index - 1]):
            raise ParseError(index)
        numbers.append(number)
    if len(numbers) < len(bounds):
        raise ParseError(len(pieces))
    return step_by(pieces[0], numbers)
