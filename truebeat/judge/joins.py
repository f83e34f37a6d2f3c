"""Joins: what kinds of cells do with nodes of a table, and on which other joins that stands."""

from truebeat.base.checks import is_ascending, is_index, is_tuple_of
from truebeat.errors import TooMany
from truebeat.nets.net import LOOKS
from truebeat.nets.walk import gate_value

MAX_JOINS = 20000


def joined_word(cell):
    """Whether the cell has a join: it is neither an input nor always 1."""
    return LOOKS.get(cell[0], 0) > 0


def plain_bit(word, nodes):
    """The bit of a cell of this kind that looks at bits."""
    return gate_value((word, 0, 1, 2), nodes, 1)


def least_asked(asks, nodes):
    """The least index that a row of the nodes asks, or one too great if none of them has a row."""
    return min([asks[node] for node in nodes])


def sides_of_nodes(table, asks, nodes):
    """The nodes exchanged for their sides where their rows ask the least index: the low ones and the high ones."""
    at = least_asked(asks, nodes)
    low = tuple([table[node - 2][1] if asks[node] == at else node for node in nodes])
    high = tuple([table[node - 2][2] if asks[node] == at else node for node in nodes])
    return at, low, high


class Joining:
    """The joins that are needed over a table: the node of each word with its nodes."""

    def __init__(self, table, nodes, asks):
        self.table = table
        self.row_nodes = nodes
        self.asks = asks
        self.found = {}


def need_join(joining, word, nodes):
    """The node of a join, which is put down with all on which it stands."""
    if max(nodes) < 2:
        return plain_bit(word, nodes)
    if (word, nodes) not in joining.found:
        at, low, high = sides_of_nodes(joining.table, joining.asks, nodes)
        low_node = need_join(joining, word, low)
        high_node = need_join(joining, word, high)
        if len(joining.found) == MAX_JOINS:
            raise TooMany(MAX_JOINS)
        # What comes of a part is a part, so its row is in the table.
        own = low_node if low_node == high_node else joining.row_nodes[(at, low_node, high_node)]
        joining.found[(word, nodes)] = own
    return joining.found[(word, nodes)]


def need_joins_of(joining, cells, nodes):
    """Put down the joins of all cells with these nodes, and those on which they stand."""
    for cell in cells:
        if joined_word(cell):
            need_join(joining, cell[0], tuple([nodes[at] for at in cell[1:]]))


def is_join_form(value, many):
    """Whether the value is a join of so many nodes that is not plain."""
    if not is_tuple_of(value, 3, 3) or not isinstance(value[0], str) or LOOKS.get(value[0], 0) == 0:
        return False
    looks = LOOKS[value[0]]
    if not is_tuple_of(value[1], looks, looks) or not all([is_index(node, many) for node in value[1]]):
        return False
    return is_index(value[2], many) and max(value[1]) > 1


def are_joins(value, many):
    """Whether the value is an ascending tuple of joins of so many nodes, none of them plain."""
    if not is_tuple_of(value, 0, MAX_JOINS) or not all([is_join_form(join, many) for join in value]):
        return False
    return is_ascending(value)


def joined_node(found, word, nodes):
    """The node that a join which is there or is plain and right has, `None` if there is none."""
    return plain_bit(word, nodes) if max(nodes) < 2 else found.get((word, nodes))


def do_stand(table, asks, found):
    """Whether each join stands on two that are there, or are plain and right."""
    for (word, nodes), own in found.items():
        at, low, high = sides_of_nodes(table, asks, nodes)
        low_node, high_node = joined_node(found, word, low), joined_node(found, word, high)
        if low_node is None or high_node is None:
            return False
        if low_node == high_node:
            if own != low_node:
                return False
        elif own < 2 or table[own - 2] != (at, low_node, high_node):
            return False
    return True
