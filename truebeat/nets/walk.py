"""Walks of nets: their beats, in many lanes side by side."""

from truebeat.base.checks import are_words, is_bit, is_name, is_tuple_of, is_word_of, plainly_made
from truebeat.base.words import check_number
from truebeat.errors import InvalidInputs, InvalidState
from truebeat.nets.net import check_net, names_in

MAX_LANES = 64
MAX_BEATS = 400


def check_state(names, lanes, state):
    """Refuse what is no dict from just these names to integers of so many lanes."""
    if not are_words(state, {name: lanes for name in names}):
        raise InvalidState("this is no state of these keepers")


def check_inputs(names, lanes, inputs):
    """Refuse what is no dict from just these names to integers of so many lanes."""
    if not are_words(inputs, {name: lanes for name in names}):
        raise InvalidInputs("these are no inputs of the net")


def check_walk(net, lanes, state):
    """Refuse what cannot be walked from a state."""
    check_net(net)
    check_number(lanes, 1, MAX_LANES)
    check_state(names_in(net[0], "keep"), lanes, state)


def first_state(net, lanes, wake):
    """The state ahead of the first beat."""
    check_net(net)
    check_number(lanes, 1, MAX_LANES)
    firsts = {cell[1]: cell[2] for cell in net[0] if cell[0] == "keep"}
    check_state([name for name in firsts if firsts[name] is None], lanes, wake)
    every = (1 << lanes) - 1
    return plainly_made({name: wake[name] if firsts[name] is None else every * firsts[name] for name in firsts})


def gate_value(cell, values, every):
    """What a gate has, by what the cells ahead of it have."""
    if cell[0] == "and":
        return values[cell[1]] & values[cell[2]]
    if cell[0] == "or":
        return values[cell[1]] | values[cell[2]]
    if cell[0] == "xor":
        return values[cell[1]] ^ values[cell[2]]
    if cell[0] == "pick":
        # Where the first one is 1, the bits that differ are turned.
        return values[cell[3]] ^ (values[cell[1]] & (values[cell[2]] ^ values[cell[3]]))
    return values[cell[1]] ^ every if cell[0] == "not" else every


def values_found(cells, lanes, state, inputs):
    """The integers of all cells in a beat, as a list."""
    every = (1 << lanes) - 1
    values = []
    for cell in cells:
        if cell[0] == "in":
            values.append(inputs[cell[1]])
        elif cell[0] == "keep":
            values.append(state[cell[1]])
        else:
            values.append(gate_value(cell, values, every))
    return values


def beat_found(net, lanes, state, inputs):
    """The outputs of a beat, and the state behind it."""
    cells, outputs = net
    values = values_found(cells, lanes, state, inputs)
    behind = {cell[1]: values[cell[3]] for cell in cells if cell[0] == "keep"}
    return plainly_made(({name: values[index] for name, index in outputs}, behind))


def worked(net, lanes, state, inputs):
    """The integers of all cells in a beat."""
    check_walk(net, lanes, state)
    check_inputs(names_in(net[0], "in"), lanes, inputs)
    return plainly_made(tuple(values_found(net[0], lanes, state, inputs)))


def beat(net, lanes, state, inputs):
    """The outputs of a beat, and the state behind it."""
    check_walk(net, lanes, state)
    check_inputs(names_in(net[0], "in"), lanes, inputs)
    return beat_found(net, lanes, state, inputs)


def run(net, lanes, state, rows):
    """The outputs of each beat of a run, and the last state."""
    check_walk(net, lanes, state)
    if not is_tuple_of(rows, 0, MAX_BEATS):
        raise InvalidInputs("these are no rows of inputs")
    names = names_in(net[0], "in")
    for inputs in rows:
        check_inputs(names, lanes, inputs)
    told = []
    last = plainly_made(state)
    for inputs in rows:
        outputs, last = beat_found(net, lanes, last, inputs)
        told.append(outputs)
    return tuple(told), last


def lane_of(values, number):
    """The bits of one lane."""
    if not isinstance(values, dict) or not all([is_name(name) for name in values]):
        raise InvalidState("this is no dict from names")
    if not all([is_word_of(MAX_LANES, values[name]) for name in values]):
        raise InvalidState("these are no integers of 64 lanes")
    check_number(number, 0, MAX_LANES - 1)
    return plainly_made({name: values[name] >> number & 1 for name in values})


def is_bit_row(value):
    """Whether the value is a dict from names to bits."""
    return isinstance(value, dict) and all([is_name(name) and is_bit(value[name]) for name in value])


def joined(rows):
    """The dict whose lanes are the rows."""
    if not is_tuple_of(rows, 1, MAX_LANES) or not all([is_bit_row(row) for row in rows]):
        raise InvalidInputs("these are no dicts from names to bits")
    names = sorted(rows[0])
    if not all([sorted(row) == names for row in rows]):
        raise InvalidInputs("these dicts have unlike names")
    return plainly_made({name: sum([row[name] << lane for lane, row in enumerate(rows)]) for name in names})
