"""The pipe: up to five steps at once, each in a place of its own."""

from truebeat.base.checks import are_words, plainly_made
from truebeat.base.words import check_word
from truebeat.core.fields import WORD_BITS, check_bit_choice, check_choice, check_fields, pipe_widths
from truebeat.parts.long import KINDS, round_behind
from truebeat.plain.deeds import LOAD, STORE, deed_of, reads_found
from truebeat.plain.machine import BELL_PLACE
from truebeat.plain.shapes import check_shape, check_step_word, fields, given_by, is_long_kind

WIRES = ("done", "done_pc", "ended", "put", "put_word", "rang")
DECODED = ("d_on", "d_pc", "d_word", "d_next")
WORKED = ("x_on", "x_pc", "x_word", "x_one", "x_two", "x_next")
LONG = ("u_on", "u_left", "u_one", "u_two")
ASKED = ("m_kind", "m_to", "m_x", "m_y")


def first_pipe(shape):
    """The first state."""
    check_shape(shape)
    return {name: 0 for name in pipe_widths(shape)}


def is_pipe(shape, value):
    """Whether the value is a pipe state."""
    check_shape(shape)
    return are_words(value, pipe_widths(shape))


def check_pipe(shape, state):
    """Refuse a wrong shape, then what is no pipe state."""
    check_shape(shape)
    check_fields(pipe_widths(shape), state)


def reads_of(shape, word):
    """The numbers of the registers that a step word reads."""
    check_shape(shape)
    check_step_word(word)
    return reads_found(shape, word)


def is_long(word, two):
    """Whether a step word is long with a second value."""
    op, _, _, c = fields(word)
    return is_long_kind(op, c) and (c == 4 or two > 0)


def is_long_word(word, two):
    """Whether a step word is long with a second value."""
    check_step_word(word)
    check_word(WORD_BITS, two)
    return is_long(word, two)


def long_name(c):
    """What long parts call the kind of a long step."""
    return KINDS[c - 4]


def ask_of(state):
    """What a pipe in this state asks, or `None`."""
    if state["m_kind"] == LOAD:
        return "read", state["m_x"]
    return ("write", state["m_x"], state["m_y"]) if state["m_kind"] == STORE else None


def asked(shape, state):
    """What the pipe asks, or `None`."""
    check_pipe(shape, state)
    return plainly_made(ask_of(state))


def put_place(state, names, words):
    """Let a place of a state that may change have these words."""
    for name, word in zip(names, words):
        state[name] = word


def write(ahead, state):
    """Let what is to be written come to its register."""
    if ahead["w_to"] > 0:
        state[f"r{ahead['w_to']}"] = ahead["w_x"]


def remember(ahead, state, data):
    """Let what the memory gives come to be written."""
    gives = ahead["m_kind"] != STORE and ahead["m_to"] > 0
    word = data if ahead["m_kind"] == LOAD else ahead["m_x"]
    put_place(state, ("w_to", "w_x"), (ahead["m_to"], word) if gives else (0, 0))


def long_behind(shape, ahead):
    """What the long part has behind a beat of a long step in work, `None` if this leaves."""
    _, _, _, c = fields(ahead["x_word"])
    if ahead["u_on"] == 0:
        return 1, shape.width, 0, ahead["x_two"] if c == 4 else ahead["x_one"]
    if ahead["u_left"] == 0:
        return None
    state = (long_name(c), ahead["x_one"], ahead["x_two"], ahead["u_left"], ahead["u_one"], ahead["u_two"])
    _, _, _, left, one, two = round_behind(shape.width, state)
    return 1, left, one, two


def deed_in_work(shape, ahead):
    """What the step that leaves work does."""
    word = ahead["x_word"]
    values = (ahead["x_one"], ahead["x_two"])
    deed = deed_of(shape.width, word, values, ahead["x_pc"], ahead["saved"])
    if is_long(word, ahead["x_two"]):
        # Where a state was not reached the long part may hold something else than the product.
        deed.result = ahead["u_two"] if fields(word)[3] == 5 else ahead["u_one"]
    return deed


def asks_behind(shape, ahead, deed):
    """What memory gets from a step that leaves work."""
    target = given_by(shape, ahead["x_word"])
    if deed.asks == LOAD:
        return LOAD, target, deed.place, 0
    if deed.asks == STORE:
        return STORE, 0, deed.place, ahead["x_two"]
    return (0, target, deed.result, 0) if deed.result is not None and target > 0 else (0, 0, 0, 0)


def value_behind(state, number):
    """The nearest value of the register with a number: what leaves work, what is to be written, or what is there."""
    if number == 0:
        return 0
    if state["m_kind"] == 0 and state["m_to"] == number:
        return state["m_x"]
    return state["w_x"] if state["w_to"] == number else state[f"r{number}"]


def come_to_work(shape, ahead, state):
    """Let the step in decode come to work, if it is not held; whether it came."""
    numbers = reads_found(shape, ahead["d_word"])
    if state["m_kind"] == LOAD and state["m_to"] > 0 and state["m_to"] in numbers:
        return False
    values = [value_behind(state, number) for number in numbers] + [0, 0]
    put_place(state, WORKED, (1, ahead["d_pc"], ahead["d_word"], values[0], values[1], ahead["d_next"]))
    return True


def finish(ahead, state, deed, bell, wires):
    """Let a step be done: what it puts out, where it leads, and the bell; whether what is behind it is struck."""
    wires["done"], wires["done_pc"] = 1, ahead["x_pc"]
    if deed.shown is not None:
        wires["put"], wires["put_word"] = 1, deed.shown
    if deed.code > 0:
        state["ended"], state["pc"] = deed.code, ahead["x_pc"]
        return True
    if deed.allows is not None:
        state["allowed"] = deed.allows
    if bell == 1 and state["allowed"] == 1:
        wires["rang"] = 1
        state["saved"], state["pc"], state["allowed"] = deed.further, BELL_PLACE, 0
        return True
    if deed.further != ahead["x_next"]:
        state["pc"] = deed.further
        return True
    return False


def work(shape, ahead, state, bell, wires):
    """Let the step in work stay, or be done; whether it stays, and whether what is behind it is struck."""
    put_place(state, WORKED + LONG + ASKED, (0,) * 14)
    if ahead["x_on"] == 0:
        return False, False
    further = long_behind(shape, ahead) if is_long(ahead["x_word"], ahead["x_two"]) else None
    if further is not None:
        put_place(state, WORKED, [ahead[name] for name in WORKED])
        put_place(state, LONG, further)
        return True, False
    deed = deed_in_work(shape, ahead)
    put_place(state, ASKED, asks_behind(shape, ahead, deed))
    return False, finish(ahead, state, deed, bell, wires)


def move_on(shape, ahead, state, word, choice, wires):
    """Let all places of a pipe that has not ended do what they do in a beat."""
    guess, _, _, bell = choice
    stays, struck = work(shape, ahead, state, bell, wires)
    if struck:
        put_place(state, DECODED, (0, 0, 0, 0))
        return
    comes = ahead["d_on"] == 1 and not stays and come_to_work(shape, ahead, state)
    if ahead["d_on"] == 0 or comes:
        put_place(state, DECODED, (1, ahead["pc"], word, guess))
        state["pc"] = guess


def beat_behind(shape, ahead, word, choice):
    """The state behind a beat without reset, and the wires."""
    _, ready, data, _ = choice
    wires = {name: 0 for name in WIRES}
    state = {name: ahead[name] for name in ahead}
    if ready == 1 or ask_of(ahead) is None:
        write(ahead, state)
        remember(ahead, state, data)
        if ahead["ended"] == 0:
            move_on(shape, ahead, state, word, choice, wires)
        else:
            names = DECODED + WORKED + LONG + ASKED
            put_place(state, names, (0,) * len(names))
    wires["ended"] = state["ended"]
    return state, wires


def pipe_beat(shape, state, word, choice, *, reset=0):
    """The state behind a beat, and the wires."""
    check_pipe(shape, state)
    check_step_word(word)
    check_choice(shape, choice)
    check_bit_choice(reset)
    if reset == 1:
        return first_pipe(shape), {name: 0 for name in WIRES}
    return plainly_made(beat_behind(shape, state, word, choice))
