"""Still nets that are alike, or not, with papers that a small function judges."""

from truebeat.base.checks import is_bit_dict, is_index, is_tuple_of, plainly_made
from truebeat.errors import InvalidOperation, TooMany
from truebeat.judge.fillings import bits_of_number, filling_of, functions_of, lowest_one
from truebeat.judge.joins import Joining, are_joins, do_stand, joined_node, joined_word, need_joins_of
from truebeat.judge.tables import MAX_ASKED, Growing, are_names, asks_of, check_still, is_table_for, nodes_grown
from truebeat.nets.net import names_in, output_names
from truebeat.nets.walk import values_found


def check_still_pair(one, other):
    """Refuse what is no still net, then two with unlike names of outputs."""
    check_still(one)
    check_still(other)
    if output_names(one) != output_names(other):
        raise InvalidOperation("the nets have outputs with other names")


def names_of_both(one, other):
    """The names of the inputs of both nets, ascending."""
    return sorted(set(names_in(one[0], "in") + names_in(other[0], "in")))


def few_names(one, other):
    """The names of the inputs of both nets, refused if they are too many for a table."""
    names = names_of_both(one, other)
    if len(names) > MAX_ASKED:
        raise TooMany(MAX_ASKED)
    return names


def pairs_of_outputs(one, other):
    """For each name of outputs, ascending, the name and the indices of both cells."""
    others = {name: index for name, index in other[1]}
    return sorted([(name, index, others[name]) for name, index in one[1]])


def alike_paper(one, other):
    """A paper of likeness of two nets, or one of parting."""
    check_still_pair(one, other)
    names = few_names(one, other)
    growing = Growing(len(names))
    nodes = nodes_grown(growing, names, one[0])
    more = nodes_grown(growing, names, other[0])
    joining = Joining(growing.rows, growing.nodes, asks_of(len(names), growing.rows))
    need_joins_of(joining, one[0], nodes)
    need_joins_of(joining, other[0], more)
    unlike = [name for name, index, at in pairs_of_outputs(one, other) if nodes[index] != more[at]]
    if len(unlike) > 0:
        number = lowest_one(parting_of(names, one, other, unlike[0]))
        return plainly_made(("unlike", filling_of(names, number), unlike[0]))
    joins = sorted([(*key, joining.found[key]) for key in joining.found])
    return plainly_made(("alike", tuple(names), tuple(growing.rows), nodes, more, tuple(joins)))


def parting_of(names, one, other, wanted):
    """At which fillings an output parts the nets, or any output if `wanted` is `None`."""
    ones, others = functions_of(names, one[0]), functions_of(names, other[0])
    found = 0
    for name, index, at in pairs_of_outputs(one, other):
        if wanted is None or name == wanted:
            found |= ones[index] ^ others[at]
    return found


def has_node(found, table, names, cell, looks):
    """The node that a cell has by the nodes of the cells at which it looks, `None` if there is none."""
    if cell[0] == "in":
        row = (names.index(cell[1]), 0, 1)
        return table.index(row) + 2 if row in table else None
    return joined_node(found, cell[0], looks) if joined_word(cell) else 1


def have_nodes(found, table, names, cells, nodes):
    """Whether all cells have these nodes."""
    inputs = {name: has_node(found, table, names, ("in", name), ()) for name in names}
    for cell, node in zip(cells, nodes):
        if cell[0] == "in":
            right = inputs[cell[1]]
        else:
            right = has_node(found, table, names, cell, tuple([nodes[at] for at in cell[1:]]))
        if right is None or right != node:
            return False
    return True


def is_likeness(one, other, value):
    """Whether a tuple of six is a paper of likeness."""
    _, names, table, nodes, more, joins = value
    if not are_names(names) or sorted(names) != names_of_both(one, other) or not is_table_for(len(names), table):
        return False
    many = len(table) + 2
    for cells, told in ((one[0], nodes), (other[0], more)):
        if not is_tuple_of(told, len(cells), len(cells)) or not all([is_index(node, many) for node in told]):
            return False
    if not are_joins(joins, many):
        return False
    found = {(word, looks): node for word, looks, node in joins}
    # Of two joins that are alike but for their nodes at most one can be right.
    if len(found) < len(joins) or not do_stand(table, asks_of(len(names), table), found):
        return False
    if not have_nodes(found, table, names, one[0], nodes) or not have_nodes(found, table, names, other[0], more):
        return False
    return all([nodes[index] == more[at] for name, index, at in pairs_of_outputs(one, other)])


def is_parting(one, other, filling, name):
    """Whether a filling parts the outputs with a name."""
    names = names_of_both(one, other)
    if not isinstance(name, str) or not is_bit_dict(filling, names):
        return False
    ones, others = values_found(one[0], 1, {}, filling), values_found(other[0], 1, {}, filling)
    return any([ones[index] != others[at] for told, index, at in pairs_of_outputs(one, other) if told == name])


def is_alike_paper(one, other, value):
    """Whether the value is a paper of likeness or of parting."""
    check_still_pair(one, other)
    if is_tuple_of(value, 6, 6) and value[0] == "alike":
        return is_likeness(one, other, value)
    if is_tuple_of(value, 3, 3) and value[0] == "unlike":
        return is_parting(one, other, value[1], value[2])
    return False


def parting_number(one, other):
    """At how many fillings some output parts the nets."""
    check_still_pair(one, other)
    names = few_names(one, other)
    return f"{parting_of(names, one, other, None):b}".count("1")


def first_parting(one, other):
    """The least bits, the names ascending, at which some output parts the nets, `None` if there are none."""
    check_still_pair(one, other)
    names = few_names(one, other)
    parting = parting_of(names, one, other, None)
    return None if parting == 0 else bits_of_number(len(names), lowest_one(parting))
