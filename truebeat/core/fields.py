"""The names of states and wires of machines, with their bits, and the checks of what they have."""

from truebeat.base.checks import are_words, is_bit, is_tuple_of
from truebeat.core.drawing import number_bits
from truebeat.errors import InvalidChoice, InvalidState
from truebeat.plain.shapes import is_shape_word

WORD_BITS = 16


def register_names(shape):
    """The names of the registers but for register 0."""
    return [f"r{number}" for number in range(1, shape.registers)]


def ascending(table):
    """The dict with its keys ascending."""
    return {name: table[name] for name in sorted(table)}


def single_widths(shape):
    """The names of a single state, with their bits."""
    words = ["pc", "saved", *register_names(shape)]
    return ascending({**{name: shape.width for name in words}, "allowed": 1, "ended": 2})


def pipe_widths(shape):
    """The names of a pipe state, with their bits."""
    words = [f"{letter}_{word}" for letter in "dx" for word in ("pc", "next")]
    words = words + [f"{letter}_{word}" for letter in "xu" for word in ("one", "two")] + ["m_x", "m_y", "w_x"]
    low = number_bits(shape)
    return ascending({
        **single_widths(shape), **{name: shape.width for name in words}, "d_on": 1, "x_on": 1, "u_on": 1,
        "d_word": WORD_BITS, "x_word": WORD_BITS, "u_left": 5, "m_kind": 2, "m_to": low, "w_to": low,
    })


def check_fields(widths, state):
    """Refuse what is no state with words of these widths."""
    if not are_words(state, widths):
        raise InvalidState("this is no state of such a machine")


def check_bit_choice(value):
    """Refuse what is no bit."""
    if not is_bit(value):
        raise InvalidChoice("this is no bit")


def check_choice(shape, choice):
    """Refuse what is no guess, ready, data and bell."""
    if not is_tuple_of(choice, 4, 4):
        raise InvalidChoice("this is no choice")
    guess, ready, data, bell = choice
    if not is_shape_word(shape, guess) or not is_bit(ready) or not is_shape_word(shape, data) or not is_bit(bell):
        raise InvalidChoice("this is no choice")


def held_in(shape, state):
    """The words of all registers in a state, that of register 0, too."""
    return [0] + [state[name] for name in register_names(shape)]
