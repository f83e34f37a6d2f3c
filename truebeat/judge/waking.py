"""Keepers that wake as anything: what is known of them behind some beats."""

from truebeat.base.checks import is_bit, is_bit_dict, is_integer, is_pair, is_tuple_of, own_value, plainly_made
from truebeat.errors import InvalidInputs, InvalidState, TooMany, UnknownName
from truebeat.judge.fillings import filling_of, lowest_one, number_of_bits, numbers_at_all, patterns
from truebeat.nets.net import LOOKS, check_net, names_in
from truebeat.nets.walk import beat_found, values_found

MAX_LETTERS = 14
MOST_ROWS = 400


def are_known(value, names):
    """Whether the value is a dict from just these names to bits or `None`."""
    if not isinstance(value, dict) or len(value) != len(names):
        return False
    return all([name in value and (value[name] is None or is_bit(value[name])) for name in names])


def check_known_inputs(net, inputs):
    """Refuse what is no known inputs of the net."""
    if not are_known(inputs, names_in(net[0], "in")):
        raise InvalidInputs("these are no known inputs of the net")


def check_known_rows(net, rows):
    """Refuse what is no rows of known inputs of the net."""
    names = names_in(net[0], "in")
    if not is_tuple_of(rows, 0, MOST_ROWS) or not all([are_known(inputs, names) for inputs in rows]):
        raise InvalidInputs("these are no rows of known inputs of the net")


def known_and(one, other):
    if one == 0 or other == 0:
        return 0
    return 1 if one == 1 and other == 1 else None


def known_not(one):
    return None if one is None else 1 - one


def known_or(one, other):
    return known_not(known_and(known_not(one), known_not(other)))


def known_xor(one, other):
    return None if one is None or other is None else one ^ other


def known_pick(chosen, one, other):
    if chosen is None:
        return one if one == other else None
    return one if chosen == 1 else other


def known_one():
    return 1


KNOWN = {
    "one": known_one, "not": known_not, "and": known_and, "or": known_or, "xor": known_xor, "pick": known_pick,
}


def known_values(cells, state, inputs):
    """What is known of all cells in a beat."""
    values = []
    for cell in cells:
        if cell[0] in LOOKS:
            work = KNOWN[cell[0]]
            looks = [values[at] for at in cell[1:]]
            values.append(work(*looks))
        else:
            values.append(inputs[cell[1]] if cell[0] == "in" else state[cell[1]])
    return values


def known_beat(net, state, inputs):
    """What is known of the outputs in a beat, and the known state behind it."""
    cells, ports = net
    values = known_values(cells, state, inputs)
    behind = {cell[1]: values[cell[3]] for cell in cells if cell[0] == "keep"}
    return plainly_made(({name: values[index] for name, index in ports}, behind))


def three_beat(net, state, inputs):
    """What is known of the outputs in a beat, and the known state behind it."""
    check_net(net)
    if not are_known(state, names_in(net[0], "keep")):
        raise InvalidState("this is no known state of the net")
    check_known_inputs(net, inputs)
    return known_beat(net, state, inputs)


def three_run(net, rows):
    """What is known of the outputs of all beats, and the known state behind them, if nothing is known ahead."""
    check_net(net)
    check_known_rows(net, rows)
    state = plainly_made({name: None for name in names_in(net[0], "keep")})
    told = []
    for inputs in rows:
        outputs, state = known_beat(net, state, inputs)
        told.append(outputs)
    return tuple(told), state


def letters_of(net, rows):
    """What is not known ahead of a run: the keepers, and the places of `None` in the rows."""
    loose = [(at, name) for at, inputs in enumerate(rows) for name in sorted(inputs) if inputs[name] is None]
    return sorted(names_in(net[0], "keep")) + loose


def last_values(net, rows, letters):
    """The integers of the keepers behind the rows, in a lane for each filling of the letters."""
    lanes = 1 << len(letters)
    every = (1 << lanes) - 1
    told = patterns(letters)
    state = {name: told[name] for name in names_in(net[0], "keep")}
    for at, inputs in enumerate(rows):
        given = {}
        for name in inputs:
            given[name] = told[(at, name)] if inputs[name] is None else inputs[name] * every
        values = values_found(net[0], lanes, state, given)
        state = {cell[1]: values[cell[3]] for cell in net[0] if cell[0] == "keep"}
    return state


def few_letters(net, rows):
    """What is not known ahead of a run, refused if it is too much."""
    letters = letters_of(net, rows)
    if len(letters) > MAX_LETTERS:
        raise TooMany(MAX_LETTERS)
    return letters


def known(net, rows):
    """The keepers that have one bit behind the rows in every run, with this bit."""
    check_net(net)
    check_known_rows(net, rows)
    letters = few_letters(net, rows)
    every = (1 << (1 << len(letters))) - 1
    values = last_values(net, rows, letters)
    sure = {name: 0 if values[name] == 0 else 1 for name in values if values[name] == 0 or values[name] == every}
    return plainly_made(sure)


def run_told(net, rows, letters, number):
    """The run of one filling of the letters: its waking and its rows."""
    filling = filling_of(letters, number)
    told = []
    for at, inputs in enumerate(rows):
        told.append({name: filling[(at, name)] if inputs[name] is None else inputs[name] for name in inputs})
    return {name: filling[name] for name in names_in(net[0], "keep")}, tuple(told)


def check_keeper_name(net, name):
    """Refuse what is no name of a keeper."""
    if not isinstance(name, str) or name not in names_in(net[0], "keep"):
        raise UnknownName(own_value(name))


def unlike_wakings(net, rows, name):
    """Two runs behind which the keeper has unlike bits, `None` if there are none."""
    check_net(net)
    check_known_rows(net, rows)
    check_keeper_name(net, name)
    letters = few_letters(net, rows)
    every = (1 << (1 << len(letters))) - 1
    value = last_values(net, rows, letters)[name]
    if value == 0 or value == every:
        return None
    numbers = (lowest_one(every ^ value), lowest_one(value))
    return plainly_made(tuple([run_told(net, rows, letters, number) for number in numbers]))


def is_told_run(net, rows, value):
    """Whether the value is a waking and the rows with bits for each `None`."""
    if not is_pair(value) or not is_bit_dict(value[0], names_in(net[0], "keep")):
        return False
    if not is_tuple_of(value[1], len(rows), len(rows)):
        return False
    names = names_in(net[0], "in")
    for inputs, given in zip(rows, value[1]):
        if not is_bit_dict(given, names):
            return False
        if not all([inputs[name] is None or inputs[name] == given[name] for name in names]):
            return False
    return True


def last_state(net, told_run):
    """The state behind a run."""
    state, rows = told_run
    for inputs in rows:
        _, state = beat_found(net, 1, state, inputs)
    return state


def are_unlike_wakings(net, rows, name, value):
    """Whether the value is two runs behind which the keeper has unlike bits."""
    check_net(net)
    check_known_rows(net, rows)
    check_keeper_name(net, name)
    if not is_pair(value) or not all([is_told_run(net, rows, told_run) for told_run in value]):
        return False
    return last_state(net, value[0])[name] != last_state(net, value[1])[name]


def check_settled(net, inputs):
    """Refuse what is no net, inputs that are not all known, and too many keepers."""
    check_net(net)
    if not is_bit_dict(inputs, names_in(net[0], "in")):
        raise InvalidInputs("these are no inputs without an unknown bit")
    if len(names_in(net[0], "keep")) > MAX_LETTERS:
        raise TooMany(MAX_LETTERS)


def numbers_behind(net, inputs, names):
    """The number of the state behind each waking, by the numbers of the wakings."""
    cells = net[0]
    lanes = 1 << len(names)
    given = {name: inputs[name] * ((1 << lanes) - 1) for name in inputs}
    values = values_found(cells, lanes, patterns(names), given)
    fed = {cell[1]: cell[3] for cell in cells if cell[0] == "keep"}
    return numbers_at_all([values[fed[name]] for name in names], lanes)


def ring_behind(behind, start):
    """A state that comes back to itself, to which the start leads, and the one behind it."""
    met = set()
    at = start
    while at not in met:
        met.add(at)
        at = behind[at]
    return at, behind[at]


def beats_to(behind, goal):
    """For each state that comes to the goal, which leads to itself, behind how many beats it is there first."""
    ahead = {}
    for state, further in enumerate(behind):
        if state != goal:
            ahead.setdefault(further, []).append(state)
    beats = {goal: 0}
    queue = [goal]
    while queue:
        further = [state for place in queue for state in ahead.get(place, [])]
        for state in further:
            beats[state] = beats[behind[state]] + 1
        queue = further
    return beats


def settled(net, inputs):
    """A paper of the one state to which all wakings come, or of two that come back to themselves."""
    check_settled(net, inputs)
    names = sorted(names_in(net[0], "keep"))
    behind = numbers_behind(net, inputs, names)
    one, other = ring_behind(behind, 0)
    beats = beats_to(behind, one) if one == other else {}
    if len(beats) == len(behind):
        return "settled", max(list(beats.values())), filling_of(names, one)
    if one == other:
        # What does not come there comes to another ring.
        loose = [state for state in range(len(behind)) if state not in beats]
        other, _ = ring_behind(behind, loose[0])
    return "apart", filling_of(names, one), filling_of(names, other)


def does_come_back(behind, state):
    """Whether a state comes back to itself behind some beats."""
    at = behind[state]
    for _ in behind:
        if at == state:
            return True
        at = behind[at]
    return False


def is_settled_paper(net, inputs, value):
    """Whether the value is a paper of the state to which all wakings come, or of two that come back."""
    check_settled(net, inputs)
    names = sorted(names_in(net[0], "keep"))
    if not is_tuple_of(value, 3, 3) or not is_bit_dict(value[2], names):
        return False
    behind = numbers_behind(net, inputs, names)
    last = number_of_bits([value[2][name] for name in names])
    if value[0] == "settled":
        beats = beats_to(behind, last) if behind[last] == last else {}
        return is_integer(value[1]) and len(beats) == len(behind) and max(list(beats.values())) == value[1]
    if value[0] != "apart" or not is_bit_dict(value[1], names):
        return False
    first = number_of_bits([value[1][name] for name in names])
    return first != last and does_come_back(behind, first) and does_come_back(behind, last)
