"""What nets do from all their states with all their inputs, told by numbers.

The number of a state has the bits of the keepers by ascending names, the first one on top, and likewise
those of an input and of an output: so numbers ascend as the tuples of the bits do.
"""

from truebeat.judge.fillings import bits_of_number, number_of_bits, numbers_at_all, patterns
from truebeat.nets.net import names_in
from truebeat.nets.walk import values_found


def keeper_names(net):
    """The names of the keepers, ascending."""
    return sorted(names_in(net[0], "keep"))


def input_names(net):
    """The names of the inputs, ascending."""
    return sorted(names_in(net[0], "in"))


def first_bits(net):
    """The first bits of the keepers of a begun net, by ascending names."""
    firsts = {cell[1]: cell[2] for cell in net[0] if cell[0] == "keep"}
    return tuple([int(firsts[name]) for name in sorted(firsts)])


class Moves:
    """For each state and, within it, each input: the number of the state behind the beat, and of the output."""

    def __init__(self, net):
        cells, ports = net
        keepers, inputs = keeper_names(net), input_names(net)
        self.keepers, self.inputs, self.ports = len(keepers), len(inputs), len(ports)
        self.letters = 1 << len(inputs)
        told = patterns(keepers + inputs)
        fillings = 1 << len(told)
        values = values_found(cells, fillings, told, told)
        fed = {cell[1]: cell[3] for cell in cells if cell[0] == "keep"}
        self.behind = numbers_at_all([values[fed[name]] for name in keepers], fillings)
        self.told = numbers_at_all([values[index] for _, index in sorted(ports)], fillings)


def letters_told(moves):
    """The tuples of the bits of all inputs, ascending."""
    return [bits_of_number(moves.inputs, letter) for letter in range(moves.letters)]


def state_told(moves, number):
    """The tuple of the bits of the state with this number."""
    return bits_of_number(moves.keepers, number)


def beat_of_bits(net, state, given):
    """The output and the state behind one beat, from tuples of bits."""
    cells, ports = net
    kept = {name: bit for name, bit in zip(keeper_names(net), state)}
    fed = {name: bit for name, bit in zip(input_names(net), given)}
    values = values_found(cells, 1, kept, fed)
    behind = sorted([(cell[1], values[cell[3]]) for cell in cells if cell[0] == "keep"])
    told = tuple([int(values[index]) for _, index in sorted(ports)])
    return told, tuple([int(bit) for _, bit in behind])


def run_of_bits(net, state, row):
    """The outputs of all beats of a row, and the state behind them."""
    met = {}
    told = []
    for given in row:
        key = (number_of_bits(state), number_of_bits(given))
        if key not in met:
            met[key] = beat_of_bits(net, state, given)
        shown, state = met[key]
        told.append(shown)
    return tuple(told), tuple([int(bit) for bit in state])
