"""The lines of sheets: their widths and their weights.

Each function of the table WIDTHS tells the width of a line, by the widths of the lines ahead of it;
0 says that the line is none.
"""

from truebeat.base.checks import is_between, is_index, is_name, is_tuple_of, is_word_of

MOST_BITS = 32
MOST_CHOSEN = 64
LONGEST_PORT = 20


def is_port(value):
    """Whether the value is a name of an input, a keeper or an output of a sheet."""
    return is_name(value) and len(value) <= LONGEST_PORT and "." not in value


def is_width(value):
    """Whether the value is a width of a line."""
    return is_between(value, 1, MOST_BITS)


def shared_width(ats, widths):
    """The width that lines have in common, 0 if they have none, or are no lines ahead."""
    if not all([is_index(at, len(widths)) for at in ats]):
        return 0
    return widths[ats[0]] if all([widths[at] == widths[ats[0]] for at in ats]) else 0


def width_of_input(line, widths):
    return line[2] if len(line) == 3 and is_port(line[1]) and is_width(line[2]) else 0


def width_of_told(line, widths):
    return line[1] if len(line) == 3 and is_width(line[1]) and is_word_of(line[1], line[2]) else 0


def width_of_cut(line, widths):
    if len(line) != 4 or not is_index(line[1], len(widths)):
        return 0
    wide = widths[line[1]]
    return line[3] if is_index(line[2], wide) and is_between(line[3], 1, wide - line[2]) else 0


def width_of_join(line, widths):
    if len(line) < 2 or not all([is_index(at, len(widths)) for at in line[1:]]):
        return 0
    wide = sum([widths[at] for at in line[1:]])
    return wide if is_width(wide) else 0


def width_of_longer(line, widths):
    if len(line) != 3 or not is_index(line[1], len(widths)):
        return 0
    return line[2] if is_between(line[2], widths[line[1]], MOST_BITS) else 0


def width_of_one(line, widths):
    return shared_width(line[1:], widths) if len(line) == 2 else 0


def width_of_two(line, widths):
    return shared_width(line[1:], widths) if len(line) == 3 else 0


def width_of_test_of_one(line, widths):
    return 1 if width_of_one(line, widths) > 0 else 0


def width_of_test_of_two(line, widths):
    return 1 if width_of_two(line, widths) > 0 else 0


def width_of_pick(line, widths):
    if len(line) != 4 or not is_index(line[1], len(widths)) or widths[line[1]] != 1:
        return 0
    return shared_width(line[2:], widths)


def width_of_choose(line, widths):
    if len(line) != 3 or not is_index(line[1], len(widths)) or not is_tuple_of(line[2], 1, MOST_CHOSEN):
        return 0
    return shared_width(line[2], widths)


def width_of_move(line, widths):
    if len(line) != 3 or not all([is_index(at, len(widths)) for at in line[1:]]):
        return 0
    return widths[line[1]]


def width_of_keep(line, widths):
    if len(line) != 5 or not is_port(line[1]) or not is_width(line[2]):
        return 0
    # The line that feeds it may stand behind it, so its width is asked when all lines are known.
    return line[2] if line[3] is None or is_word_of(line[2], line[3]) else 0


WIDTHS = {
    "in": width_of_input, "told": width_of_told, "cut": width_of_cut, "join": width_of_join,
    "wide": width_of_longer, "long": width_of_longer, "not": width_of_one,
    "and": width_of_two, "or": width_of_two, "xor": width_of_two, "add": width_of_two, "less_by": width_of_two,
    "same": width_of_test_of_two, "below": width_of_test_of_two, "under": width_of_test_of_two,
    "any": width_of_test_of_one, "all": width_of_test_of_one, "pick": width_of_pick, "choose": width_of_choose,
    "left": width_of_move, "right": width_of_move,
    "times": width_of_two, "part": width_of_two, "rest": width_of_two, "keep": width_of_keep,
}
EACH_BIT = {"in": 1, "not": 1, "and": 1, "or": 1, "xor": 1, "add": 3, "less_by": 3, "pick": 1, "keep": 1}
EACH_TESTED_BIT = {"same": 4, "below": 4, "under": 4, "any": 1, "all": 1}
FIXED = {"told": 2, "cut": 0, "join": 0, "wide": 2, "long": 2}


def line_width(line, widths):
    """The width of a line behind lines of these widths, 0 if the value is no line."""
    if not isinstance(line, tuple) or len(line) == 0 or not isinstance(line[0], str) or line[0] not in WIDTHS:
        return 0
    reckon = WIDTHS[line[0]]
    return reckon(line, widths)


def read_widths(lines):
    """The widths of all lines, `None` if one of them is no line."""
    widths = []
    for line in lines:
        width = line_width(line, widths)
        if width == 0:
            return None
        widths.append(width)
    return widths if all([is_fed(line, widths) for line in lines]) else None


def is_fed(line, widths):
    """Whether the line is no keeper, or a line of its width feeds it."""
    return line[0] != "keep" or (is_index(line[4], len(widths)) and widths[line[4]] == line[2])


def line_weight(line, width, widths):
    """The weight of a line of this width, by the widths of all lines."""
    kind = line[0]
    if kind in EACH_BIT:
        return EACH_BIT[kind] * width
    if kind in EACH_TESTED_BIT:
        return EACH_TESTED_BIT[kind] * widths[line[1]]
    if kind == "choose":
        return 2 * width * len(line[2]) + widths[line[1]]
    if kind == "left" or kind == "right":
        return (width + 1) * widths[line[2]]
    if kind == "times":
        return 2 * width * width
    if kind == "part" or kind == "rest":
        return 5 * width * width + 5 * width
    return FIXED[kind]


def total_weight(lines, widths):
    """The weight of all lines, one division of the same two lines counted once."""
    total = 0
    divisions = set()
    for line, width in zip(lines, widths):
        if line[0] == "part" or line[0] == "rest":
            if line[1:] in divisions:
                continue
            divisions.add(line[1:])
        total += line_weight(line, width, widths)
    return total


def port_widths(lines, kind):
    """The dict from the names of all inputs or keepers to their widths."""
    return {line[1]: line[2] for line in lines if line[0] == kind}
