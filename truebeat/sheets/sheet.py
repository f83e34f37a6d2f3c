"""Sheets: what words on wires do, line by line."""

from truebeat.base.checks import are_unlike, are_words, is_index, is_pair, is_tuple_of, plainly_made
from truebeat.errors import InvalidInputs, InvalidSheet, InvalidState
from truebeat.sheets.lines import is_port, port_widths, read_widths, total_weight
from truebeat.sheets.works import words_found

MAX_LINES = 1000
MAX_WEIGHT = 5900
MOST_PORT_BITS = 400
MOST_ROWS = 400


def is_sheet_output(value, many):
    """Whether the value is a pair of a name and of an index of so many lines."""
    return is_pair(value) and is_port(value[0]) and is_index(value[1], many)


def are_sheet_outputs(value, widths):
    """Whether the value is outputs for lines of these widths."""
    if not isinstance(value, tuple) or not all([is_sheet_output(pair, len(widths)) for pair in value]):
        return False
    return are_unlike([pair[0] for pair in value]) and sum([widths[pair[1]] for pair in value]) <= MOST_PORT_BITS


def have_good_ports(lines):
    """Whether inputs and keepers have unlike names, and neither of them too many bits."""
    ports = [line for line in lines if line[0] == "in" or line[0] == "keep"]
    for kind in ("in", "keep"):
        if sum([line[2] for line in ports if line[0] == kind]) > MOST_PORT_BITS:
            return False
    return are_unlike([line[1] for line in ports])


def is_sheet(value):
    """Whether the value is a sheet."""
    if not is_pair(value) or not is_tuple_of(value[0], 1, MAX_LINES):
        return False
    lines, outputs = value
    widths = read_widths(lines)
    if widths is None or not have_good_ports(lines) or not are_sheet_outputs(outputs, widths):
        return False
    return total_weight(lines, widths) <= MAX_WEIGHT


def checked_widths(sheet):
    """The widths of all lines of what is refused unless it is a sheet."""
    if not is_sheet(sheet):
        raise InvalidSheet("this is no sheet")
    return read_widths(sheet[0])


def widths_of(sheet):
    """The widths of all lines."""
    return plainly_made(tuple(checked_widths(sheet)))


def weight_of(sheet):
    """The weight of all lines."""
    widths = checked_widths(sheet)
    return total_weight(sheet[0], widths)


def ports_found(sheet, widths):
    """The widths of the inputs, of the keepers and of the outputs, by the widths of the lines."""
    outputs = {name: widths[index] for name, index in sheet[1]}
    return port_widths(sheet[0], "in"), port_widths(sheet[0], "keep"), outputs


def ports_of(sheet):
    """The widths of the inputs, of the keepers and of the outputs, by their names."""
    widths = checked_widths(sheet)
    return plainly_made(ports_found(sheet, widths))


def check_sheet_state(sheet, state):
    """Refuse what is no state of a sheet."""
    if not are_words(state, port_widths(sheet[0], "keep")):
        raise InvalidState("this is no state of the sheet")


def check_sheet_inputs(sheet, inputs):
    """Refuse what is no inputs of a sheet."""
    if not are_words(inputs, port_widths(sheet[0], "in")):
        raise InvalidInputs("these are no inputs of the sheet")


def line_words(sheet, state, inputs):
    """The words of all lines at a beat."""
    widths = checked_widths(sheet)
    check_sheet_state(sheet, state)
    check_sheet_inputs(sheet, inputs)
    return plainly_made(tuple(words_found(sheet[0], widths, state, inputs)))


def beat_of_words(sheet, widths, state, inputs):
    """The words of the outputs at a beat, and the state behind it."""
    lines, outputs = sheet
    words = words_found(lines, widths, state, inputs)
    behind = {line[1]: words[line[4]] for line in lines if line[0] == "keep"}
    return plainly_made(({name: words[index] for name, index in outputs}, behind))


def sheet_beat(sheet, state, inputs):
    """The words of the outputs at a beat, and the state behind it."""
    widths = checked_widths(sheet)
    check_sheet_state(sheet, state)
    check_sheet_inputs(sheet, inputs)
    return beat_of_words(sheet, widths, state, inputs)


def sheet_run(sheet, state, rows):
    """The words of the outputs at each beat of a run, and the last state."""
    widths = checked_widths(sheet)
    check_sheet_state(sheet, state)
    if not is_tuple_of(rows, 0, MOST_ROWS):
        raise InvalidInputs("these are no rows of inputs")
    for inputs in rows:
        check_sheet_inputs(sheet, inputs)
    told = []
    last = plainly_made(state)
    for inputs in rows:
        outputs, last = beat_of_words(sheet, widths, last, inputs)
        told.append(outputs)
    return tuple(told), last
