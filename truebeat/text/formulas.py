"""Formulas: trees of numbers and cells, the order in which they need the fewest registers, and their steps."""

from truebeat.base.checks import is_between, is_bit, is_tuple_of
from truebeat.base.words import check_number
from truebeat.errors import InvalidOperation, Refused, TooMany
from truebeat.plain.shapes import check_shape
from truebeat.text.steps import step_by

MOST_NODES = 60
LEAST_NUMBER = -256
MOST_NUMBER = 255
MOST_CELL = 31
RECKONED = ("add", "sub", "and", "or", "xor", "less", "left", "right")
LONG = ("times", "part", "rest")


def is_node(value):
    """Whether the value is a node of a formula; what its sides are is not looked at."""
    if is_tuple_of(value, 2, 2):
        if value[0] == "number":
            return is_between(value[1], LEAST_NUMBER, MOST_NUMBER)
        return value[0] == "cell" and is_between(value[1], 0, MOST_CELL)
    if not is_tuple_of(value, 4, 4) or value[0] != "two" or not isinstance(value[1], str):
        return False
    return value[1] in RECKONED or value[1] in LONG


def is_pair_node(node):
    """Whether a node has two sides."""
    return node[0] == "two"


def nodes_of(formula):
    """The dict from the paths of all nodes to these, each behind its holder; `None` if it is no formula."""
    found = {}
    edge = [((), formula)]
    while edge:
        path, node = edge.pop()
        if not is_node(node) or len(found) == MOST_NODES:
            return None
        found[path] = node
        if is_pair_node(node):
            edge.append((path + (0,), node[2]))
            edge.append((path + (1,), node[3]))
    return found


def checked_nodes(formula):
    """The dict from the paths of all nodes to these, of what is refused unless it is a formula."""
    nodes = nodes_of(formula)
    if nodes is None:
        raise InvalidOperation("this is no formula of so few nodes")
    return nodes


def height_of_sides(one, other):
    """The height of a node with sides of these heights."""
    return one + 1 if one == other else max(one, other)


def heights_of(nodes):
    """The dict from the paths of all nodes to their heights."""
    heights = {}
    for path in list(nodes)[::-1]:
        sides = is_pair_node(nodes[path])
        heights[path] = height_of_sides(heights[path + (0,)], heights[path + (1,)]) if sides else 1
    return heights


def formula_height(formula):
    """The height of the formula."""
    return heights_of(checked_nodes(formula))[()]


def put_order(order, nodes, heights, path):
    """Put the paths of a node and of all below it behind the others, those of the higher side first."""
    if is_pair_node(nodes[path]):
        one, other = path + (0,), path + (1,)
        for side in (one, other) if heights[one] >= heights[other] else (other, one):
            put_order(order, nodes, heights, side)
    order.append(path)


def formula_order(formula):
    """An order with the least need."""
    nodes = checked_nodes(formula)
    order = []
    put_order(order, nodes, heights_of(nodes), ())
    return tuple(order)


def is_path(nodes, value):
    """Whether the value is the path of one of the nodes."""
    return isinstance(value, tuple) and all([is_bit(side) for side in value]) and value in nodes


def need_of(nodes, order):
    """The greatest number of values that are held, `None` if a node stands ahead of one of its sides."""
    met = set()
    held, need = 0, 0
    for path in order:
        if is_pair_node(nodes[path]):
            if path + (0,) not in met or path + (1,) not in met:
                return None
            held -= 2
        met.add(path)
        held += 1
        need = max(need, held)
    return need


def is_formula_order(formula, most, value):
    """Whether the value is an order that needs at most so many values at once."""
    nodes = checked_nodes(formula)
    check_number(most, 1, MOST_NODES)
    if not is_tuple_of(value, len(nodes), len(nodes)) or not all([is_path(nodes, path) for path in value]):
        return False
    if len(set(value)) < len(value):
        return False
    need = need_of(nodes, value)
    return need is not None and need <= most


def tree_in(heights, path):
    """A full tree of the height of a node among it and those below it."""
    height = heights[path]
    if height == 1:
        return (path,)
    one, other = path + (0,), path + (1,)
    if heights[one] == height or heights[other] == height:
        return tree_in(heights, one if heights[one] == height else other)
    return path, tree_in(heights, one), tree_in(heights, other)


def full_tree(formula):
    """A full tree of the greatest height."""
    return tree_in(heights_of(checked_nodes(formula)), ())


def is_tree(nodes, height, ahead, value):
    """Whether the value is a full tree of a height whose path begins with another one."""
    size = 1 if height == 1 else 3
    if not is_tuple_of(value, size, size) or not is_path(nodes, value[0]) or value[0][:len(ahead)] != ahead:
        return False
    path = value[0]
    return height == 1 or all([is_tree(nodes, height - 1, path + (side,), value[side + 1]) for side in (0, 1)])


def is_full_tree(formula, height, value):
    """Whether the value is a full tree of the height in the formula."""
    nodes = checked_nodes(formula)
    check_number(height, 1, MOST_NODES)
    return is_tree(nodes, height, (), value)


def step_for(node, target, other):
    """The step word of a node: the values of its sides, if it has some, are in the target and the other one."""
    if node[0] == "number":
        return step_by("set", (target, node[1]))
    if node[0] == "cell":
        return step_by("load", (target, 0, node[1]))
    if node[1] in LONG:
        return step_by(node[1], (target, other))
    return step_by(node[1], (target, target, other))


def put_steps(words, nodes, heights, path, free):
    """Put the steps of a node and of all below it behind the others; its value comes to the first free register.

    Products and quotients stand in the register of their first side, so the other side, if it is higher and
    comes first, leaves the first free register to this one.
    """
    other = 0
    if is_pair_node(nodes[path]):
        other = free[1]
        rest = free[2:]
        if heights[path + (0,)] >= heights[path + (1,)]:
            put_steps(words, nodes, heights, path + (0,), free)
            put_steps(words, nodes, heights, path + (1,), (other, *rest))
        else:
            put_steps(words, nodes, heights, path + (1,), (other, free[0], *rest))
            put_steps(words, nodes, heights, path + (0,), (free[0], *rest))
    words.append(step_for(nodes[path], free[0], other))


def formula_steps(shape, formula):
    """Step words that leave the value of the formula in register 1."""
    check_shape(shape)
    nodes = checked_nodes(formula)
    heights = heights_of(nodes)
    height = heights[()]
    if height > shape.registers - 1:
        raise Refused(("registers", height))
    most = (1 << shape.width) - 1
    if len(nodes) > most:
        raise TooMany(most)
    words = []
    put_steps(words, nodes, heights, (), tuple(range(1, height + 1)))
    return tuple(words)
