"""Lots of alike states: states of one machine that no row of inputs parts."""


class Sorting:
    """Lots that are split: the states of each, the lot of each state, and those that may still split others."""

    def __init__(self):
        self.lots = []
        self.places = {}
        self.waiting = []
        self.pending = {}


def put_lot(sorting, states):
    """Put a lot of states behind the others; its number."""
    number = len(sorting.lots)
    sorting.lots.append({state: True for state in states})
    for state in states:
        sorting.places[state] = number
    return number


def wait_for(sorting, number):
    """Let a lot split others later on."""
    sorting.waiting.append(number)
    sorting.pending[number] = True


def split_lot(sorting, number, inside):
    """Take some states, not all, out of a lot, and see that one of both parts is yet to split others."""
    left = sorting.lots[number]
    for state in inside:
        del left[state]
    fresh = put_lot(sorting, inside)
    # Of two parts of a lot that has split all others the lesser one is enough.
    wait_for(sorting, fresh if number in sorting.pending or len(inside) <= len(left) else number)


def split_by(sorting, letter, states, ahead):
    """Split each lot of which a letter leads some states, not all, into these states."""
    leading = {}
    for state in states:
        for source in ahead.get((letter, state), []):
            leading.setdefault(sorting.places[source], []).append(source)
    for number, inside in leading.items():
        if len(inside) < len(sorting.lots[number]):
            split_lot(sorting, number, inside)


def states_ahead(moves, states):
    """For each letter and state the states from which the letter leads to it."""
    ahead = {}
    for state in states:
        for letter in range(moves.letters):
            behind = moves.behind[state * moves.letters + letter]
            ahead.setdefault((letter, behind), []).append(state)
    return ahead


def lots_of(moves, states):
    """The states, from which no letter leads out, sorted into lots of alike ones: the lot of each state."""
    sorting = Sorting()
    alike = {}
    for state in states:
        start = state * moves.letters
        alike.setdefault(tuple(moves.told[start:start + moves.letters]), []).append(state)
    for told in alike:
        wait_for(sorting, put_lot(sorting, alike[told]))
    ahead = states_ahead(moves, states)
    while sorting.waiting:
        number = sorting.waiting.pop()
        del sorting.pending[number]
        # The lot may be split by itself; what it was splits the others all the same.
        inside = list(sorting.lots[number])
        for letter in range(moves.letters):
            split_by(sorting, letter, inside, ahead)
    return sorting.places
