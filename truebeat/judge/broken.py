"""Broken wires: cells that always have one bit, and rows of inputs that show it."""

from truebeat.base.checks import is_ascending, is_bit, is_index, is_pair, is_tuple_of, plainly_made
from truebeat.base.words import check_number
from truebeat.errors import InvalidInputs, TooMany
from truebeat.judge.alike import alike_paper, is_alike_paper
from truebeat.judge.clocked import are_bits, check_begun
from truebeat.judge.fillings import bits_of_number, lowest_one, number_of_bits, pattern
from truebeat.judge.moves import first_bits, input_names, keeper_names, run_of_bits
from truebeat.nets.net import check_net, led_along
from truebeat.nets.walk import MAX_BEATS, values_found
from truebeat.nets.wiring import ONE, ZERO, fresh_cells, put

MAX_LETTERS = 12
MAX_BROKEN = 500
MOST_OUTPUTS = 400
MOST_BEATS = 12


def check_breakable(net):
    """Refuse what is no net, then one that is not begun."""
    check_net(net)
    check_begun(net)


def check_break(net, index, bit):
    """Refuse, in this sequence, a wrong net, index of a cell, and bit."""
    check_breakable(net)
    check_number(index, 0, len(net[0]) - 1)
    check_number(bit, 0, 1)


def check_cells(net, beats):
    """Refuse a net with too many cells for so many beats."""
    if len(net[0]) * beats > MAX_BROKEN:
        raise TooMany(MAX_BROKEN)


def check_beats(net, beats):
    """Refuse what is no number of beats, then a net that is too great for so many."""
    check_number(beats, 1, MOST_BEATS)
    check_cells(net, beats)
    if len(input_names(net)) * beats > MAX_LETTERS:
        raise TooMany(MAX_LETTERS)
    if len(net[1]) * beats > MOST_OUTPUTS:
        raise TooMany(MOST_OUTPUTS)


def put_broken(cells, cell, place):
    """Put a broken cell behind the others, if its name must stay, and tell at which index its bit is.

    `place` is the index of a cell that always has the bit.
    """
    if cell[0] == "keep":
        return put(cells, "keep", cell[1], 1 if place == ONE else 0, len(cells))
    if cell[0] == "in":
        cells.append(cell)
    return place


def broken_net(net, index, bit):
    """The net of good arguments in which the cell always has the bit."""
    cells = fresh_cells()
    places = []
    for at, cell in enumerate(net[0]):
        if at == index:
            places.append(put_broken(cells, cell, ONE if bit == 1 else ZERO))
        else:
            # What feeds a keeper may stand behind it, so keepers are fed when all places are known.
            cells.append(cell if cell[0] == "keep" else led_along(cell, places))
            places.append(len(cells) - 1)
    for at, cell in enumerate(net[0]):
        if cell[0] == "keep" and at != index:
            cells[places[at]] = led_along(cell, places)
    return plainly_made((tuple(cells), tuple([(name, places[at]) for name, at in net[1]])))


def broken(net, index, bit):
    """A net that works like the one in which the cell always has the bit."""
    check_break(net, index, bit)
    check_cells(net, 1)
    return broken_net(net, index, bit)


class Unrolling:
    """A still net that grows beat by beat: its cells, and where those of the net are at the last beat."""

    def __init__(self, net):
        self.cells = fresh_cells()
        self.places = []
        self.numbers = {name: number for number, name in enumerate(input_names(net))}


def unroll_beat(unrolling, net, beat):
    """Put the cells of one more beat behind the others."""
    ahead = unrolling.places
    places = []
    for cell in net[0]:
        if cell[0] == "keep":
            first = ONE if cell[2] == 1 else ZERO
            places.append(first if beat == 0 else ahead[cell[3]])
        elif cell[0] == "in":
            number = beat * len(unrolling.numbers) + unrolling.numbers[cell[1]]
            places.append(put(unrolling.cells, "in", f"x{number}"))
        elif cell[0] == "one":
            places.append(ONE)
        else:
            unrolling.cells.append(led_along(cell, places))
            places.append(len(unrolling.cells) - 1)
    unrolling.places = places


def unrolled_net(net, beats):
    """The still net of the outputs of so many beats of a good net."""
    unrolling = Unrolling(net)
    outputs = []
    for beat in range(beats):
        unroll_beat(unrolling, net, beat)
        for _, index in sorted(net[1]):
            outputs.append((f"y{len(outputs)}", unrolling.places[index]))
    return plainly_made((tuple(unrolling.cells), tuple(outputs)))


def unrolled(net, beats):
    """The still net of the outputs of so many beats from the first state on."""
    check_breakable(net)
    check_beats(net, beats)
    return unrolled_net(net, beats)


def is_row_of(net, most, value):
    """Whether the value is a row of at least one and at most so many inputs."""
    many = len(input_names(net))
    return is_tuple_of(value, 1, most) and all([are_bits(given, many) for given in value])


def does_row_show(net, index, bit, row):
    """Whether a good row shows a break."""
    other = broken_net(net, index, bit)
    return run_of_bits(net, first_bits(net), row)[0] != run_of_bits(other, first_bits(other), row)[0]


def does_show(net, index, bit, row):
    """Whether the row shows the break."""
    check_break(net, index, bit)
    if not is_row_of(net, MAX_BEATS, row):
        raise InvalidInputs("this is no row of inputs of the net")
    check_cells(net, 1)
    return does_row_show(net, index, bit, row)


class Lanes:
    """All rows of so many inputs side by side, ascending: what the inputs have in them at each beat."""

    def __init__(self, net, beats):
        self.names = input_names(net)
        self.letters = len(self.names) * beats
        self.fillings = 1 << self.letters
        self.given = []
        for beat in range(beats):
            first = beat * len(self.names)
            self.given.append({name: pattern(self.letters, first + at) for at, name in enumerate(self.names)})


def outputs_in(lanes, net):
    """For each beat what the outputs have in all rows, by their ascending names."""
    cells, ports = net
    every = (1 << lanes.fillings) - 1
    kept = {name: bit * every for name, bit in zip(keeper_names(net), first_bits(net))}
    indices = [index for _, index in sorted(ports)]
    told = []
    for given in lanes.given:
        values = values_found(cells, lanes.fillings, kept, given)
        kept = {cell[1]: values[cell[3]] for cell in cells if cell[0] == "keep"}
        told.append([values[index] for index in indices])
    return told


def shown_in(lanes, right, net, index, bit):
    """For each number of beats the rows in which as many beats show a break."""
    shown = []
    found = 0
    for ones, others in zip(right, outputs_in(lanes, broken_net(net, index, bit))):
        for one, other in zip(ones, others):
            found |= one ^ other
        shown.append(found)
    return shown


def row_of_lane(lanes, lane, beats):
    """The row of the first inputs, so many, in a lane."""
    bits = bits_of_number(lanes.letters, lane)
    many = len(lanes.names)
    return tuple([bits[beat * many:beat * many + many] for beat in range(beats)])


def least_row(net, index, bit, beats):
    """The least row of at most so many inputs that shows a break, `None` if none does."""
    lanes = Lanes(net, beats)
    shown = shown_in(lanes, outputs_in(lanes, net), net, index, bit)
    for many, found in enumerate(shown, 1):
        if found > 0:
            return row_of_lane(lanes, lowest_one(found), many)
    return None


def break_paper(net, index, bit, beats):
    """The least row that shows the break, or a paper that no such row does."""
    check_break(net, index, bit)
    check_beats(net, beats)
    row = least_row(net, index, bit, beats)
    if row is not None:
        return "shown", row
    return "never", alike_paper(unrolled_net(net, beats), unrolled_net(broken_net(net, index, bit), beats))


def is_break_paper(net, index, bit, beats, value):
    """Whether the value is a row that shows the break, or a paper that none does."""
    check_break(net, index, bit)
    check_beats(net, beats)
    if not is_pair(value):
        return False
    if value[0] == "shown":
        return is_row_of(net, beats, value[1]) and does_row_show(net, index, bit, value[1])
    if value[0] != "never" or not isinstance(value[1], tuple) or value[1][:1] != ("alike",):
        return False
    return is_alike_paper(unrolled_net(net, beats), unrolled_net(broken_net(net, index, bit), beats), value[1])


def breaks_of(net):
    """All breaks of a net, ascending."""
    return [(index, bit) for index in range(len(net[0])) for bit in (0, 1)]


def all_shown(net, lanes):
    """For each break of a net what `shown_in` tells."""
    right = outputs_in(lanes, net)
    return {pair: shown_in(lanes, right, net, pair[0], pair[1]) for pair in breaks_of(net)}


def lanes_enough(found):
    """Lanes in which all breaks are shown that some lane shows, the least ones of breaks that come ahead."""
    chosen = []
    for rows in found:
        if not any([rows >> lane & 1 == 1 for lane in chosen]):
            chosen.append(lowest_one(rows))
    return chosen


def lanes_needed(found):
    """Lanes that show all breaks that some lane shows, none of which can be left out."""
    chosen = lanes_enough(found)
    showing = {lane: [at for at, rows in enumerate(found) if rows >> lane & 1 == 1] for lane in chosen}
    times = [0] * len(found)
    for lane in chosen:
        for at in showing[lane]:
            times[at] += 1
    kept = []
    for lane in chosen:
        if all([times[at] > 1 for at in showing[lane]]):
            for at in showing[lane]:
                times[at] -= 1
        else:
            kept.append(lane)
    return sorted(kept)


def tests(net, beats):
    """Rows that show all breaks that can be shown, none to be left out, and the breaks that cannot be."""
    check_breakable(net)
    check_beats(net, beats)
    lanes = Lanes(net, beats)
    shown = all_shown(net, lanes)
    found = [shown[pair][-1] for pair in shown if shown[pair][-1] > 0]
    rows = tuple([row_of_lane(lanes, lane, beats) for lane in lanes_needed(found)])
    return rows, tuple([pair for pair in shown if shown[pair][-1] == 0])


def are_rows(net, beats, value):
    """Whether the value is an ascending tuple of rows of at most so many inputs, not more than there are breaks."""
    if not is_tuple_of(value, 0, 2 * len(net[0])) or not all([is_row_of(net, beats, row) for row in value]):
        return False
    return is_ascending(value)


def is_break(net, value):
    """Whether the value is a break of the net."""
    return is_pair(value) and is_index(value[0], len(net[0])) and is_bit(value[1])


def lane_of_row(lanes, row):
    """The first lane whose row begins with a row."""
    bits = [bit for given in row for bit in given]
    return number_of_bits(bits) << (lanes.letters - len(bits))


def are_all_needed(net, shown, lanes, rows):
    """Whether rows show all breaks that can be shown, and each of them one that no other one shows."""
    places = [(lane_of_row(lanes, row), len(row) - 1) for row in rows]
    alone = {}
    for pair in shown:
        showing = [at for at, (lane, last) in enumerate(places) if shown[pair][last] >> lane & 1 == 1]
        if len(showing) == 0 and shown[pair][-1] > 0:
            return False
        if len(showing) == 1:
            alone[showing[0]] = True
    return len(alone) == len(rows)


def are_tests(net, beats, value):
    """Whether the value is rows that show all breaks that can be shown, none to be left out, and the other breaks."""
    check_breakable(net)
    check_beats(net, beats)
    if not is_pair(value) or not are_rows(net, beats, value[0]) or not isinstance(value[1], tuple):
        return False
    if not all([is_break(net, pair) for pair in value[1]]):
        return False
    lanes = Lanes(net, beats)
    shown = all_shown(net, lanes)
    if value[1] != tuple([pair for pair in shown if shown[pair][-1] == 0]):
        return False
    return are_all_needed(net, shown, lanes, value[0])
