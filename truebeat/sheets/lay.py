"""Nets laid from sheets, and the bits of their words."""

from truebeat.base.checks import are_words, is_between, plainly_made
from truebeat.errors import InvalidOperation, InvalidState
from truebeat.nets.net import check_net, names_in
from truebeat.nets.walk import beat_found
from truebeat.nets.wiring import ports_for
from truebeat.sheets.layers import laid_lines
from truebeat.sheets.lines import MOST_BITS, is_port
from truebeat.sheets.sheet import beat_of_words, check_sheet_inputs, check_sheet_state, checked_widths, ports_found


def lay(sheet):
    """A net laid from the sheet."""
    checked_widths(sheet)
    lines, outputs = sheet
    cells, rows = laid_lines(lines)
    ports = [port for name, index in outputs for port in ports_for(name, rows[index])]
    return plainly_made((tuple(cells), tuple(ports)))


def check_widths(widths):
    """Refuse what is no dict from names to widths."""
    if not isinstance(widths, dict) or not all([is_port(name) for name in widths]):
        raise InvalidOperation("this is no dict from names")
    if not all([is_between(widths[name], 1, MOST_BITS) for name in widths]):
        raise InvalidOperation("these are no widths")


def bit_names(widths):
    """The names of all bits of words of these widths."""
    return [f"{name}.{bit}" for name in widths for bit in range(widths[name])]


def bits_found(widths, words):
    """The dict from the names of bits to the bits, ascending."""
    return plainly_made({f"{name}.{bit}": words[name] >> bit & 1 for name in widths for bit in range(widths[name])})


def bits_of(widths, words):
    """The dict from the names of bits to the bits of the words."""
    check_widths(widths)
    if not are_words(words, widths):
        raise InvalidState("these are no words of these widths")
    return bits_found(widths, words)


def words_of(widths, bits):
    """The dict from names to words that have these bits."""
    check_widths(widths)
    if not are_words(bits, {name: 1 for name in bit_names(widths)}):
        raise InvalidState("these are no bits of words of these widths")
    return joined_words(widths, bits)


def joined_words(widths, bits):
    """The dict from names to the words that have these bits, ascending."""
    return plainly_made({name: sum([bits[f"{name}.{bit}"] << bit for bit in range(widths[name])]) for name in widths})


def have_bit_names(net, ports):
    """Whether the inputs, the keepers and the outputs of a net are the bits of those of a sheet."""
    cells, outputs = net
    told = (names_in(cells, "in"), names_in(cells, "keep"), [name for name, index in outputs])
    return all([sorted(names) == sorted(bit_names(widths)) for names, widths in zip(told, ports)])


def check_bit_names(net, ports):
    """Refuse a net whose inputs, keepers and outputs are not the bits of those of a sheet."""
    if not have_bit_names(net, ports):
        raise InvalidOperation("the net has other names than the bits of the sheet")


def beat_of_bits_in(net, ports, state, inputs):
    """The bits of the outputs in a beat from words, and those of the keepers behind it."""
    return beat_found(net, 1, bits_found(ports[1], state), bits_found(ports[0], inputs))


def least_unlike(told, right):
    """The least name with unlike values, `None` if there is none."""
    unlike = [name for name in right if told[name] != right[name]]
    return min(unlike, default=None)


def bit_fault(net, ports, ahead, right):
    """What the beat of a net from a state and inputs does otherwise than the right outputs and state behind it."""
    told, kept = beat_of_bits_in(net, ports, *ahead)
    output = least_unlike(told, bits_found(ports[2], right[0]))
    if output is not None:
        return ("output", output)
    keeper = least_unlike(kept, bits_found(ports[1], right[1]))
    return None if keeper is None else ("keeper", keeper)


def lay_fault(sheet, net, state, inputs):
    """What the beat of the net does otherwise than that of the sheet, `None` for nothing."""
    widths = checked_widths(sheet)
    check_net(net)
    check_sheet_state(sheet, state)
    check_sheet_inputs(sheet, inputs)
    ports = ports_found(sheet, widths)
    check_bit_names(net, ports)
    return bit_fault(net, ports, (state, inputs), beat_of_words(sheet, widths, state, inputs))
