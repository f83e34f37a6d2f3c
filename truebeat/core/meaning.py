"""What the states of the pipe mean on the plain machine, and which of them are kept."""

from truebeat.base.checks import is_bit, is_tuple_of, plainly_made
from truebeat.core.fields import held_in, register_names
from truebeat.core.pipe import DECODED, LONG, WORKED, beat_behind, check_pipe, is_long, long_name
from truebeat.errors import InvalidChoice, Refused
from truebeat.parts.long import reached_words
from truebeat.plain.deeds import ENDS, LOAD, STORE, put_word, values_read
from truebeat.plain.machine import Plain, with_memory
from truebeat.plain.shapes import check_memory, check_program, fields, is_long_kind, is_shape_word, word_at


def check_meant(shape, state, memory, program):
    """Refuse, in this sequence, a wrong shape, state, memory and program."""
    check_pipe(shape, state)
    check_memory(shape.width, memory)
    check_program(program)


def registers_meant(shape, state, memory):
    """The words of all registers once write and memory are empty."""
    held = held_in(shape, state)
    held[state["w_to"]] = state["w_x"]
    if state["m_kind"] != STORE:
        held[state["m_to"]] = memory.get(state["m_x"], 0) if state["m_kind"] == LOAD else state["m_x"]
    held[0] = 0
    return held


def memory_meant(state, memory):
    """The memory once what is asked is done."""
    found = {place: memory[place] for place in memory}
    if state["m_kind"] == STORE:
        put_word(found, state["m_x"], state["m_y"])
    return plainly_made(found)


def meant(shape, state, memory, program, outputs):
    """The meaning of a pipe state, with words that were put out."""
    place = state["x_pc"] if state["x_on"] == 1 else state["d_pc"] if state["d_on"] == 1 else state["pc"]
    found = Plain(shape, program, pc=place, registers=tuple(registers_meant(shape, state, memory)),
                  saved=state["saved"], allowed=state["allowed"] == 1, ended=ENDS[state["ended"]], outputs=outputs)
    return with_memory(found, memory_meant(state, memory))


def meaning(shape, state, memory, program):
    """The meaning of a pipe state, a memory and a program."""
    check_meant(shape, state, memory, program)
    return meant(shape, state, memory, program, ())


def are_zero(state, names):
    """Whether all of these names have 0."""
    return all([state[name] == 0 for name in names])


def are_empty_places_zero(state):
    """Whether each place without a step has 0 in all of its names."""
    for names in (DECODED, WORKED, LONG):
        if state[names[0]] == 0 and not are_zero(state, names):
            return False
    if state["m_kind"] not in (LOAD, STORE) and state["m_to"] == 0 and not are_zero(state, ("m_x", "m_y")):
        return False
    if state["m_kind"] != STORE and state["m_y"] > 0:
        return False
    return state["w_to"] > 0 or state["w_x"] == 0


def is_work_kept(shape, state, memory, program):
    """Whether the step in work is that of the program, with the values that it reads."""
    word = word_at(program, state["x_pc"])
    values = values_read(shape, word, registers_meant(shape, state, memory))
    return state["x_word"] == word and (state["x_one"], state["x_two"]) == values


def are_guesses_kept(state):
    """Whether the places behind a step in work or in decode are those that were guessed."""
    if state["d_on"] == 1:
        return state["pc"] == state["d_next"] and (state["x_on"] == 0 or state["d_pc"] == state["x_next"])
    return state["x_on"] == 0 or state["pc"] == state["x_next"]


def is_long_kept(shape, state):
    """Whether a long part that is on has what its rounds lead to."""
    left, one, two = state["u_left"], state["x_one"], state["x_two"]
    if state["x_on"] == 0 or not is_long(state["x_word"], two) or left > shape.width:
        return False
    kind = long_name(fields(state["x_word"])[3])
    return (state["u_one"], state["u_two"]) == reached_words(shape.width, kind, one, two, left)


def is_kept_state(shape, state, memory, program):
    """Whether a good state is kept for a good memory and program."""
    if not are_empty_places_zero(state) or not are_guesses_kept(state):
        return False
    if state["ended"] > 0 and (state["x_on"] == 1 or state["d_on"] == 1):
        return False
    if state["x_on"] == 1 and not is_work_kept(shape, state, memory, program):
        return False
    if state["d_on"] == 1 and state["d_word"] != word_at(program, state["d_pc"]):
        return False
    if state["u_on"] == 1 and not is_long_kept(shape, state):
        return False
    return state["m_kind"] < STORE or (state["m_kind"] == STORE and state["m_to"] == 0)


def is_kept(shape, state, memory, program):
    """Whether the state is kept for the memory and the program."""
    check_meant(shape, state, memory, program)
    return is_kept_state(shape, state, memory, program)


def rank(shape, state):
    """How many beats there are at most up to one that does a step, if the memory is not waited for."""
    check_pipe(shape, state)
    if state["ended"] > 0:
        return 0
    if state["x_on"] == 1:
        if not is_long(state["x_word"], state["x_two"]):
            return 1
        return state["u_left"] + 1 if state["u_on"] == 1 else shape.width + 2
    if state["d_on"] == 1:
        op, _, _, c = fields(state["d_word"])
        return shape.width + 3 if is_long_kind(op, c) else 2
    return shape.width + 4


def drained(shape, state, memory):
    """The state and the memory once write and memory are empty, if no other place did anything."""
    check_pipe(shape, state)
    check_memory(shape.width, memory)
    held = registers_meant(shape, state, memory)
    empty = {name: 0 for name in ("m_kind", "m_to", "m_x", "m_y", "w_to", "w_x")}
    registers = {name: word for name, word in zip(register_names(shape), held[1:])}
    return plainly_made({**state, **registers, **empty}), memory_meant(state, memory)


def is_square_choice(shape, value):
    """Whether the value is a guess, ready and bell."""
    return is_tuple_of(value, 3, 3) and is_shape_word(shape, value[0]) and is_bit(value[1]) and is_bit(value[2])


def word_of_beat(state, wires, ready):
    """What a beat is called."""
    if state["m_kind"] in (LOAD, STORE) and ready == 0:
        return "wait"
    if wires["done"] == 0:
        return "inner"
    return "bell" if wires["rang"] == 1 else "step"


def square(shape, state, memory, program, choice):
    """What one beat from a kept state is, and the state and the memory behind it."""
    check_meant(shape, state, memory, program)
    if not is_square_choice(shape, choice):
        raise InvalidChoice("this is no choice")
    if not is_kept_state(shape, state, memory, program):
        raise Refused(("kept",))
    guess, ready, bell = choice
    data = memory.get(state["m_x"], 0) if state["m_kind"] == LOAD else 0
    behind, wires = beat_behind(shape, state, word_at(program, state["pc"]), (guess, ready, data, bell))
    word = word_of_beat(state, wires, ready)
    kept = plainly_made(memory) if word == "wait" else memory_meant(state, memory)
    return word, plainly_made(behind), kept
