"""Nets with keepers that are alike for all rows of inputs, or parted by a least row."""

from truebeat.base.checks import is_ascending, is_bit, is_pair, is_tuple_of
from truebeat.errors import InvalidInputs, InvalidOperation, InvalidState, TooMany
from truebeat.judge.fillings import bits_of_number, number_of_bits
from truebeat.judge.lots import lots_of
from truebeat.judge.moves import Moves, first_bits, input_names, keeper_names, letters_told, run_of_bits, state_told
from truebeat.nets.net import check_net, output_names

MAX_INPUTS = 6
MAX_LETTERS = 16
MOST_ROW = 70000
MOST_ROWS_TOGETHER = 1000000


def check_begun(net):
    """Refuse a net with a keeper that wakes as anything."""
    if any([cell[0] == "keep" and cell[2] is None for cell in net[0]]):
        raise InvalidOperation("a keeper of this net wakes as anything")


def check_letters(inputs, keepers):
    """Refuse too many inputs, then too many inputs and keepers."""
    if inputs > MAX_INPUTS:
        raise TooMany(MAX_INPUTS)
    if inputs + keepers > MAX_LETTERS:
        raise TooMany(MAX_LETTERS)


def check_clocked(net):
    """Refuse a net of which not all states and inputs can be looked at."""
    check_net(net)
    check_begun(net)
    check_letters(len(input_names(net)), len(keeper_names(net)))


def check_clocked_pair(one, other):
    """Refuse two nets of which not all states and inputs can be looked at side by side."""
    check_net(one)
    check_net(other)
    check_begun(one)
    check_begun(other)
    if input_names(one) != input_names(other):
        raise InvalidOperation("the nets have inputs with other names")
    if output_names(one) != output_names(other):
        raise InvalidOperation("the nets have outputs with other names")
    check_letters(len(input_names(one)), len(keeper_names(one)) + len(keeper_names(other)))


def are_bits(value, many):
    """Whether the value is a tuple of so many bits."""
    return is_tuple_of(value, many, many) and all([is_bit(bit) for bit in value])


def check_bits_state(net, state):
    """Refuse what is no state of the net."""
    if not are_bits(state, len(keeper_names(net))):
        raise InvalidState("this is no state of the net")


def is_row(net, value):
    """Whether the value is a row of inputs of the net."""
    many = len(input_names(net))
    return is_tuple_of(value, 0, MOST_ROW) and all([are_bits(given, many) for given in value])


def done_by(net, state, row):
    """The outputs of all beats of a row, and the state behind them."""
    check_clocked(net)
    check_bits_state(net, state)
    if not is_row(net, row):
        raise InvalidInputs("this is no row of inputs of the net")
    return run_of_bits(net, state, row)


def states_reached(moves, first):
    """The states to which rows lead, by the least rows: for each one the state and the input ahead of it."""
    ways = {first: None}
    edge = [first]
    while edge:
        further = []
        for state in edge:
            for letter in range(moves.letters):
                behind = moves.behind[state * moves.letters + letter]
                if behind not in ways:
                    ways[behind] = (state, letter)
                    further.append(behind)
        edge = further
    return ways


def reached(net):
    """The dict from each state to which some row leads to the least row that does."""
    check_clocked(net)
    moves = Moves(net)
    letters = letters_told(moves)
    rows = {}
    together = 0
    # Each state stands behind the one ahead of it.
    for state, way in states_reached(moves, number_of_bits(first_bits(net))).items():
        rows[state] = () if way is None else (*rows[way[0]], letters[way[1]])
        together += len(rows[state])
        if together > MOST_ROWS_TOGETHER:
            raise TooMany(MOST_ROWS_TOGETHER)
    return {state_told(moves, state): rows[state] for state in sorted(rows)}


def leader_of(leaders, state):
    """The state that leads all those which are taken to be alike with this one."""
    while leaders.get(state, state) != state:
        further = leaders[state]
        leaders[state] = leaders.get(further, further)
        state = leaders[state]
    return state


def join_states(leaders, pair):
    """Take two states to be alike; whether they were not taken to be so yet."""
    one, other = leader_of(leaders, pair[0]), leader_of(leaders, pair[1])
    leaders[max(one, other)] = min(one, other)
    return one != other


def is_pair_wanted(ways, leaders, pair):
    """Whether a search must look at a pair of states that it has come to.

    Two states of one machine that are taken to be alike by pairs ahead need not be looked at: a row that
    parts them parts one of those pairs, to which a lesser row leads. Then `leaders` is a dict.
    """
    if leaders is not None:
        return join_states(leaders, pair)
    return pair not in ways


def search_pairs(moves, others, start, leaders):
    """The ways to pairs of states, by the least rows, up to the first pair and input with unlike outputs."""
    ways = {start: None}
    edge = [start]
    while edge:
        further = []
        for pair in edge:
            for letter in range(moves.letters):
                one, other = pair[0] * moves.letters + letter, pair[1] * moves.letters + letter
                if moves.told[one] != others.told[other]:
                    return ways, (pair, letter)
                behind = (moves.behind[one], others.behind[other])
                if is_pair_wanted(ways, leaders, behind):
                    ways[behind] = (pair, letter)
                    further.append(behind)
        edge = further
    return ways, None


def row_by(ways, way, letters):
    """The row of the inputs that a way tells from its end on."""
    row = []
    while way is not None:
        pair, letter = way
        row.append(letters[letter])
        way = ways[pair]
    return tuple(row[::-1])


def check_states(net, first, second):
    """Refuse what is no state of the net."""
    check_bits_state(net, first)
    check_bits_state(net, second)


def parting_row(net, first, second):
    """The least row that parts two states, `None` if they are alike."""
    check_clocked(net)
    check_states(net, first, second)
    start = (number_of_bits(first), number_of_bits(second))
    if start[0] == start[1]:
        return None
    moves = Moves(net)
    leaders = {max(start): min(start)}
    ways, way = search_pairs(moves, moves, start, leaders)
    return None if way is None else row_by(ways, way, letters_told(moves))


def last_outputs_differ(one, first, other, second, row):
    """Whether the outputs of the last beat of a row are unlike."""
    if len(row) == 0:
        return False
    return run_of_bits(one, first, row)[0][-1] != run_of_bits(other, second, row)[0][-1]


def is_parting_row(net, first, second, value):
    """Whether the value is a row that parts the two states."""
    check_clocked(net)
    check_states(net, first, second)
    return is_row(net, value) and last_outputs_differ(net, first, net, second, value)


def classes(net):
    """The reached states, sorted into lots of alike ones."""
    check_clocked(net)
    moves = Moves(net)
    found = {}
    states = sorted(states_reached(moves, number_of_bits(first_bits(net))))
    places = lots_of(moves, states)
    for state in states:
        found.setdefault(places[state], []).append(state_told(moves, state))
    return tuple([tuple(found[place]) for place in found])


def machine_of(net):
    """What each lot of alike states puts out for each input, and where this leads, numbered by least rows."""
    check_clocked(net)
    moves = Moves(net)
    states = list(states_reached(moves, number_of_bits(first_bits(net))))
    places = lots_of(moves, states)
    numbers = {}
    firsts = []
    for state in states:
        if places[state] not in numbers:
            numbers[places[state]] = len(firsts)
            firsts.append(state)
    rows = []
    for state in firsts:
        at = state * moves.letters
        rows.append(tuple([(bits_of_number(moves.ports, moves.told[at + letter]),
                            numbers[places[moves.behind[at + letter]]]) for letter in range(moves.letters)]))
    return tuple(rows)


def clocked(one, other):
    """A paper of two nets that are alike, or of a least row that parts them."""
    check_clocked_pair(one, other)
    moves, others = Moves(one), Moves(other)
    start = (number_of_bits(first_bits(one)), number_of_bits(first_bits(other)))
    ways, way = search_pairs(moves, others, start, None)
    if way is not None:
        return "apart", row_by(ways, way, letters_told(moves))
    return "alike", tuple([(state_told(moves, pair[0]), state_told(others, pair[1])) for pair in sorted(ways)])


def is_state_pair(value, keepers):
    """Whether the value is a pair of states of nets with so many keepers."""
    return is_pair(value) and are_bits(value[0], keepers[0]) and are_bits(value[1], keepers[1])


def are_closed(one, other, pairs):
    """Whether each input leads from pairs of states to such pairs, with equal outputs."""
    moves, others = Moves(one), Moves(other)
    found = {(number_of_bits(pair[0]), number_of_bits(pair[1])): True for pair in pairs}
    for first, second in found:
        for letter in range(moves.letters):
            at, place = first * moves.letters + letter, second * moves.letters + letter
            if moves.told[at] != others.told[place] or (moves.behind[at], others.behind[place]) not in found:
                return False
    return True


def is_clocked_paper(one, other, value):
    """Whether the value is a paper of two nets that are alike, or of a row that parts them."""
    check_clocked_pair(one, other)
    if not is_pair(value):
        return False
    if value[0] == "apart":
        firsts = first_bits(one), first_bits(other)
        return is_row(one, value[1]) and last_outputs_differ(one, firsts[0], other, firsts[1], value[1])
    if value[0] != "alike" or not isinstance(value[1], tuple):
        return False
    keepers = (len(keeper_names(one)), len(keeper_names(other)))
    if not all([is_state_pair(pair, keepers) for pair in value[1]]) or not is_ascending(value[1]):
        return False
    return (first_bits(one), first_bits(other)) in value[1] and are_closed(one, other, value[1])
