"""The pipe in gates: its sheet, its net, and what a net does otherwise than the pipe."""

from truebeat.core.fields import WORD_BITS, ascending, check_bit_choice, check_choice, pipe_widths
from truebeat.core.pipe import check_pipe, pipe_beat
from truebeat.core.stages import draw_core
from truebeat.errors import InvalidOperation
from truebeat.nets.net import check_net, is_net
from truebeat.plain.deeds import LOAD, STORE
from truebeat.plain.shapes import check_shape, check_step_word
from truebeat.sheets.lay import beat_of_bits_in, have_bit_names, joined_words, lay, least_unlike


def ports_found(shape):
    """The widths of the inputs, of the fields and of the outputs of a core."""
    wide = shape.width
    inputs = {"word": WORD_BITS, "guess": wide, "ready": 1, "data": wide, "bell": 1, "reset": 1}
    outputs = {
        "fetch": wide, "ask": 2, "place": wide, "give": wide, "done": 1, "done_pc": wide, "put": 1, "put_word": wide,
        "rang": 1, "ended": 2,
    }
    return ascending(inputs), pipe_widths(shape), ascending(outputs)


def core_ports(shape):
    """The widths of the inputs, of the fields and of the outputs of a core."""
    check_shape(shape)
    return ports_found(shape)


def core_sheet(shape):
    """A core."""
    check_shape(shape)
    return draw_core(shape, ports_found(shape))


def core_net(shape):
    """A net laid from a core."""
    return lay(core_sheet(shape))


def are_core_names(shape, net):
    """Whether the ports of a net are the bits of those of a core, and all of its keepers wake as anything."""
    if not have_bit_names(net, ports_found(shape)):
        return False
    return all([cell[0] != "keep" or cell[2] is None for cell in net[0]])


def has_core_names(shape, value):
    """Whether the value is a net with the names of a core."""
    check_shape(shape)
    return is_net(value) and are_core_names(shape, value)


def check_gated_beat(shape, net, state, word, choice, reset):
    """Refuse what cannot be a beat of a net with core names."""
    check_shape(shape)
    check_net(net)
    check_pipe(shape, state)
    check_step_word(word)
    check_choice(shape, choice)
    check_bit_choice(reset)
    if not are_core_names(shape, net):
        raise InvalidOperation("the net has not the names of a core")


def gated_beat(shape, net, state, word, choice, reset):
    """The pipe state behind a beat of a good net, and its outputs, as words."""
    ports = ports_found(shape)
    guess, ready, data, bell = choice
    inputs = {"word": word, "guess": guess, "ready": ready, "data": data, "bell": bell, "reset": reset}
    told, kept = beat_of_bits_in(net, ports, state, inputs)
    return joined_words(ports[1], kept), joined_words(ports[2], told)


def net_beat(shape, net, state, word, choice, *, reset=0):
    """The pipe state behind a beat of the net, and its outputs, as words."""
    check_gated_beat(shape, net, state, word, choice, reset)
    return gated_beat(shape, net, state, word, choice, reset)


def right_outputs(state, wires):
    """The outputs that a core has in a beat, by the wires of the pipe."""
    ask = state["m_kind"] if state["m_kind"] in (LOAD, STORE) else 0
    return {**wires, "fetch": state["pc"], "ask": ask, "place": state["m_x"], "give": state["m_y"]}


def beat_fault(shape, net, state, word, choice, *, reset=0):
    """What the net's beat does otherwise than that of the pipe, `None` for nothing."""
    check_gated_beat(shape, net, state, word, choice, reset)
    kept, told = gated_beat(shape, net, state, word, choice, reset)
    behind, wires = pipe_beat(shape, state, word, choice, reset=reset)
    output = least_unlike(told, right_outputs(state, wires))
    if output is not None:
        return ("output", output)
    field = least_unlike(kept, behind)
    return None if field is None else ("field", field)
