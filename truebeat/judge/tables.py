"""Tables of decisions: the cells of still nets, told by rows that ask one name each."""

from truebeat.base.checks import are_unlike, is_bit_dict, is_index, is_integer, is_name, is_pair, is_tuple_of
from truebeat.base.checks import plainly_made
from truebeat.base.words import check_number
from truebeat.errors import InvalidInputs, InvalidNet, InvalidOperation, InvalidPaper, TooMany
from truebeat.judge.fillings import functions_of, pattern
from truebeat.nets.net import check_net, names_in

MAX_ASKED = 12
MAX_ROWS = 20000
MAX_ORDERED = 8


def check_still(net):
    """Refuse what is no net without keepers."""
    check_net(net)
    if len(names_in(net[0], "keep")) > 0:
        raise InvalidNet("this net has keepers")


def are_names(value):
    """Whether the value is a tuple of unlike names, not too many for a table."""
    return is_tuple_of(value, 0, MAX_ASKED) and all([is_name(name) for name in value]) and are_unlike(value)


def check_names(names):
    """Refuse what is no names for a table."""
    if not are_names(names):
        raise InvalidOperation("these are no names for a table")


def is_table_row(value, asks, many):
    """Whether the value is a row behind nodes that ask names with these indices, for so many names."""
    if not is_tuple_of(value, 3, 3) or not is_index(value[0], many):
        return False
    at, low, high = value
    if not is_index(low, len(asks)) or not is_index(high, len(asks)) or low == high:
        return False
    return asks[low] > at and asks[high] > at


def asks_of(many, table):
    """The index of the name that each node asks, so many as there are names for the nodes 0 and 1."""
    return [many, many] + [row[0] for row in table]


def is_table_for(many, value):
    """Whether the value is a table for so many names."""
    if not is_tuple_of(value, 0, MAX_ROWS):
        return False
    asks = asks_of(many, ())
    for row in value:
        if not is_table_row(row, asks, many):
            return False
        asks.append(row[0])
    return are_unlike(value)


def is_table(names, value):
    """Whether the value is a table for the names."""
    check_names(names)
    return is_table_for(len(names), value)


def check_table(names, table, node):
    """Refuse, in this sequence, wrong names, a wrong table, and what is none of its nodes."""
    if not is_table(names, table):
        raise InvalidPaper("this is no table for the names")
    check_number(node, 0, len(table) + 1)


def table_value(names, table, node, filling):
    """The value of a node at a filling."""
    check_table(names, table, node)
    if not is_bit_dict(filling, names):
        raise InvalidInputs("this is no filling of the names")
    while node > 1:
        at, low, high = table[node - 2]
        node = high if filling[names[at]] == 1 else low
    return int(node)


def ones(names, table, node):
    """At how many fillings the node has the value 1."""
    check_table(names, table, node)
    many = [0, 1 << len(names)]
    for _, low, high in table:
        # Neither side asks the name of the row, so half of what it counts has either bit there.
        many.append((many[low] + many[high]) // 2)
    return many[node]


class Growing:
    """A table that grows: its rows, their nodes, and the nodes of functions of the last names."""

    def __init__(self, many):
        self.many = many
        self.rows = []
        self.nodes = {}
        self.met = {}


def node_of_row(growing, row):
    """The node of a row, which is put behind the others if it is not there."""
    if row not in growing.nodes:
        if len(growing.rows) == MAX_ROWS:
            raise TooMany(MAX_ROWS)
        growing.rows.append(row)
        growing.nodes[row] = len(growing.rows) + 1
    return growing.nodes[row]


def node_of_function(growing, at, function):
    """The node of a function of the names from the index `at` on."""
    half = (1 << (growing.many - at)) // 2
    if function == 0:
        return 0
    if half == 0 or function == (1 << (2 * half)) - 1:
        return 1
    if (at, function) not in growing.met:
        low = node_of_function(growing, at + 1, function & ((1 << half) - 1))
        high = node_of_function(growing, at + 1, function >> half)
        growing.met[(at, function)] = low if low == high else node_of_row(growing, (at, low, high))
    return growing.met[(at, function)]


def nodes_grown(growing, names, cells):
    """The nodes of the cells of a still net, for which a table grows."""
    return tuple([node_of_function(growing, 0, function) for function in functions_of(names, cells)])


def table_of(names, net):
    """A short table for the net, and the nodes of all its cells."""
    check_names(names)
    check_still(net)
    if not all([name in names for name in names_in(net[0], "in")]):
        raise InvalidOperation("the net has an input that is none of the names")
    growing = Growing(len(names))
    nodes = nodes_grown(growing, names, net[0])
    return tuple(growing.rows), nodes


def sides_of(function, many, at):
    """The functions that come of one of so many names if the name with the index `at` is set to 0 and to 1."""
    places = 1 << (many - 1 - at)
    on = pattern(many, at)
    low, high = (function << places) & on, function & on
    return low | (low >> places), high | (high >> places)


def count_rows(counts, many, chosen, functions):
    """Put down how many rows ask each further name behind any names, those of `chosen` and later ones set.

    `functions` are the unlike functions that come of the cells when the names of `chosen`, told by the bits
    of a number, are set in all ways.
    """
    for at in range(many):
        if chosen >> at & 1 == 0:
            sides = [sides_of(function, many, at) for function in functions]
            counts[(chosen, at)] = sum([1 for low, high in sides if low != high])
            if chosen >> at == 0:
                behind = {side: True for pair in sides for side in pair}
                count_rows(counts, many, chosen | (1 << at), list(behind))


def rows_counted(net):
    """How many rows of a short table ask a name: by the names ahead, as a number, and the index of the name.

    The indices are those in the ascending sequence of the names.
    """
    names = sorted(names_in(net[0], "in"))
    counts = {}
    functions = {function: True for function in functions_of(names, net[0])}
    count_rows(counts, len(names), 0, list(functions))
    return names, counts


def check_ordered(net):
    """Refuse what is no still net, then a net with too many inputs."""
    check_still(net)
    if len(names_in(net[0], "in")) > MAX_ORDERED:
        raise TooMany(MAX_ORDERED)


def best_order(many, counts):
    """The least number of rows, and the indices of the names in a sequence with so few."""
    best = [(0, ())]
    for chosen in range(1, 1 << many):
        lasts = [at for at in range(many) if chosen >> at & 1 == 1]
        further = []
        for at in lasts:
            fewest, order = best[chosen - (1 << at)]
            further.append((fewest + counts[(chosen - (1 << at), at)], order + (at,)))
        best.append(min(further))
    return best[-1]


def least_order(net):
    """The least number of parts in any sequence of the inputs, and such a sequence."""
    check_ordered(net)
    names, counts = rows_counted(net)
    fewest, order = best_order(len(names), counts)
    return fewest, plainly_made(tuple([names[at] for at in order]))


def is_least_order(net, value):
    """Whether the value is the least number of parts and a sequence of the inputs with so many."""
    check_ordered(net)
    if not is_pair(value) or not is_integer(value[0]) or not are_names(value[1]):
        return False
    names, counts = rows_counted(net)
    if sorted(value[1]) != names:
        return False
    chosen, parts = 0, 0
    for name in value[1]:
        at = names.index(name)
        parts += counts[(chosen, at)]
        chosen |= 1 << at
    return parts == value[0] and parts == best_order(len(names), counts)[0]
