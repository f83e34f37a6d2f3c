"""Drawings: sheets that grow line by line, each line put there just once, and the parts of machines in them."""

from truebeat.plain.deeds import FAR_BITS, NEAR_BITS, read_fields

REGISTER_BITS = {2: 1, 4: 2, 8: 3}


def number_bits(shape):
    """The bits of the number of a register."""
    return REGISTER_BITS[shape.registers]


class Drawing:
    """The lines of a sheet that grows, and the index of each."""

    def __init__(self):
        self.drawn = []
        self.places = {}


def draw(drawing, *line):
    """The index of a line, which is put behind the others if it is not there."""
    if line not in drawing.places:
        drawing.places[line] = len(drawing.drawn)
        drawing.drawn.append(line)
    return drawing.places[line]


def told(drawing, width, word):
    """A line that always has this word."""
    return draw(drawing, "told", width, word)


def both(drawing, *lines):
    """Whether all of these lines of one bit are 1."""
    found = lines[0]
    for line in lines[1:]:
        found = draw(drawing, "and", found, line)
    return found


def either(drawing, *lines):
    """Whether one of these lines of one bit is 1."""
    found = lines[0]
    for line in lines[1:]:
        found = draw(drawing, "or", found, line)
    return found


def turned(drawing, line):
    """The line with each bit exchanged."""
    return draw(drawing, "not", line)


def pick(drawing, chosen, one, other):
    """The first line where the line of one bit is 1, else the other one."""
    return one if one == other else draw(drawing, "pick", chosen, one, other)


def only(drawing, chosen, width, line):
    """The line where the line of one bit is 1, else 0."""
    return pick(drawing, chosen, line, told(drawing, width, 0))


def draw_ports(drawing, widths):
    """The lines of inputs with these widths, by their names."""
    return {name: draw(drawing, "in", name, widths[name]) for name in widths}


def draw_keepers(drawing, widths):
    """The lines of keepers with these widths, which wake as anything, by their names."""
    return {name: draw(drawing, "keep", name, widths[name], None, 0) for name in widths}


def feed_keepers(drawing, keepers, fresh):
    """Let lines feed the keepers with their names."""
    for name in keepers:
        drawing.drawn[keepers[name]] = (*drawing.drawn[keepers[name]][:4], fresh[name])


def sheet_of(drawing, outputs):
    """The sheet that is drawn."""
    return tuple(drawing.drawn), tuple([(name, outputs[name]) for name in sorted(outputs)])


def lengthened_number(drawing, line, bits, width):
    """The signed number of the lowest bits of a line, as a word."""
    if bits > width:
        return draw(drawing, "cut", line, 0, width)
    return draw(drawing, "long", draw(drawing, "cut", line, 0, bits), width)


def draw_fields(drawing, shape, word):
    """The lines of the fields of a step word, and of what steps with the op 15 it is, by their names."""
    low = number_bits(shape)
    op, kind = draw(drawing, "cut", word, 12, 4), draw(drawing, "cut", word, 0, 3)
    found = {
        "op": op, "a": draw(drawing, "cut", word, 9, low), "b": draw(drawing, "cut", word, 6, low),
        "c": draw(drawing, "cut", word, 0, low),
        "near": lengthened_number(drawing, word, NEAR_BITS, shape.width),
        "far": lengthened_number(drawing, word, FAR_BITS, shape.width),
    }
    special, upper = draw(drawing, "all", op), draw(drawing, "any", draw(drawing, "cut", word, 3, 3))
    lower = both(drawing, special, turned(drawing, upper))
    for number, name in enumerate(("end", "put", "back", "allow", "times", "part", "rest")):
        found[name] = both(drawing, lower, draw(drawing, "same", kind, told(drawing, 3, number)))
    found["wrong"] = both(drawing, special, either(drawing, upper, draw(drawing, "all", kind)))
    found["divides"] = either(drawing, found["part"], found["rest"])
    found["works_long"] = either(drawing, found["times"], found["divides"])
    return found


def is_op(drawing, found, number):
    """Whether the op is this one."""
    return draw(drawing, "same", found["op"], told(drawing, 4, number))


def draw_reads(drawing, shape, found):
    """The lines of the numbers of the two registers that a step word reads, 0 for none."""
    low = number_bits(shape)
    none = told(drawing, low, 0)
    lots = []
    for op in range(15):
        names = read_fields(op, "a", "b", "c")
        lots.append([found[name] for name in names] + [none] * (2 - len(names)))
    one = either(drawing, found["put"], found["allow"], found["works_long"])
    lots.append([only(drawing, one, low, found["a"]), only(drawing, found["works_long"], low, found["b"])])
    return [draw(drawing, "choose", found["op"], tuple([lot[side] for lot in lots])) for side in (0, 1)]


def draw_results(drawing, shape, found, values, near, special):
    """The lines of what a step with each op gives; `special` is that of products and quotients."""
    one, two = values
    wide = shape.width
    few = draw(drawing, "cut", two, 0, 4)
    none = told(drawing, wide, 0)
    plain = [draw(drawing, word, one, two) for word in ("add", "less_by", "and", "or", "xor")]
    under = draw(drawing, "wide", draw(drawing, "under", one, two), wide)
    moved = [draw(drawing, "left", one, few), draw(drawing, "right", one, few)]
    return [*plain, under, *moved, near, found["far"], none, none, none, none, found["next"], special]


def draw_further(drawing, found, values, pc, near, saved):
    """The line of the place at which a step goes on, if it does."""
    one, two = values
    equal = both(drawing, is_op(drawing, found, 12), draw(drawing, "same", one, two))
    under = both(drawing, is_op(drawing, found, 13), draw(drawing, "under", one, two))
    taken = draw(drawing, "add", pc, found["near"])
    further = pick(drawing, either(drawing, equal, under), taken, found["next"])
    further = pick(drawing, is_op(drawing, found, 14), near, further)
    return pick(drawing, found["back"], saved, further)


def draw_deed(drawing, shape, found, values, places, special):
    """Put the lines of what a step does with its values, at its place, to those of its word, by their names.

    `places` are the lines of its place, of the saved place and of whether bells are allowed.
    """
    pc, saved, allowed = places
    one, two = values
    found["next"] = draw(drawing, "add", pc, told(drawing, shape.width, 1))
    near = draw(drawing, "add", one, found["near"])
    faulty = both(drawing, found["divides"], turned(drawing, draw(drawing, "any", two)))
    found["code"] = draw(drawing, "join", either(drawing, found["end"], faulty),
                         either(drawing, found["wrong"], faulty))
    found["stops"] = draw(drawing, "any", found["code"])
    found["load"], found["store"] = is_op(drawing, found, 10), is_op(drawing, found, 11)
    found["place"] = near
    results = draw_results(drawing, shape, found, values, near, special)
    found["result"] = draw(drawing, "choose", found["op"], tuple(results))
    yes, no = told(drawing, 1, 1), told(drawing, 1, 0)
    gives = both(drawing, found["works_long"], turned(drawing, faulty))
    gives = draw(drawing, "choose", found["op"], tuple([yes] * 10 + [no] * 4 + [yes, gives]))
    found["gives"] = both(drawing, gives, draw(drawing, "any", found["a"]))
    found["further"] = draw_further(drawing, found, values, pc, near, saved)
    allows = pick(drawing, found["allow"], draw(drawing, "cut", one, 0, 1), allowed)
    found["allows"] = pick(drawing, found["back"], yes, allows)
    return found


def draw_word_of(drawing, number, rows):
    """The word of the register with a number, by the lines of all registers, that of 0 too."""
    return draw(drawing, "choose", number, tuple(rows))
