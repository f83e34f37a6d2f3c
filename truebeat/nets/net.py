"""Cells, lots of them, and nets: their orders, rings, depths and ways."""

from heapq import heappop, heappush

from truebeat.base.checks import are_unlike, is_bit, is_index, is_name, is_pair, is_tuple_of, plainly_made
from truebeat.errors import InvalidNet, Refused, TooMany

MAX_CELLS = 6000
MAX_NAMED = 400
MAX_LOOSE = 300
LOOKS = {"one": 0, "not": 1, "and": 2, "or": 2, "xor": 2, "pick": 3}


def looks_of(cell):
    """The indices at which a cell looks."""
    return cell[1:] if cell[0] in LOOKS else ()


def is_cell(value, many):
    """Whether the value is a cell of a lot of so many cells."""
    if not isinstance(value, tuple) or len(value) == 0 or not isinstance(value[0], str):
        return False
    if value[0] in LOOKS:
        return len(value) == LOOKS[value[0]] + 1 and all([is_index(at, many) for at in value[1:]])
    if value[0] == "in":
        return len(value) == 2 and is_name(value[1])
    return value[0] == "keep" and is_keeper(value, many)


def is_keeper(cell, many):
    """Whether a cell that says it is a keeper is a whole one."""
    if len(cell) != 4 or not is_name(cell[1]):
        return False
    return (cell[2] is None or is_bit(cell[2])) and is_index(cell[3], many)


def names_in(cells, kind):
    """The names of the inputs or of the keepers, in the sequence of the cells."""
    return [cell[1] for cell in cells if cell[0] == kind]


def is_lot(value):
    """Whether the value is a lot of cells."""
    if not is_tuple_of(value, 0, MAX_CELLS) or not all([is_cell(cell, len(value)) for cell in value]):
        return False
    inputs, keepers = names_in(value, "in"), names_in(value, "keep")
    return len(inputs) <= MAX_NAMED and len(keepers) <= MAX_NAMED and are_unlike(inputs + keepers)


def output_names(net):
    """The names of the outputs of a net, ascending."""
    return sorted([name for name, _ in net[1]])


def is_output(value, many):
    """Whether the value is a pair of a name and of an index of so many."""
    return is_pair(value) and is_name(value[0]) and is_index(value[1], many)


def are_outputs(value, many):
    """Whether the value is outputs for a lot of so many cells."""
    if not is_tuple_of(value, 0, MAX_NAMED) or not all([is_output(pair, many) for pair in value]):
        return False
    return are_unlike([pair[0] for pair in value])


def is_net(value):
    """Whether the value is a net."""
    if not is_pair(value) or not is_lot(value[0]) or not are_outputs(value[1], len(value[0])):
        return False
    return all([at < index for index, cell in enumerate(value[0]) for at in looks_of(cell)])


def check_lot(cells):
    """Refuse what is no lot."""
    if not is_lot(cells):
        raise InvalidNet("this is no lot of cells")


def check_net(net):
    """Refuse what is no net."""
    if not is_net(net):
        raise InvalidNet("this is no net")


def lookers_of(cells):
    """For each cell those that look at it, once for each look."""
    lookers = [[] for _ in cells]
    for index, cell in enumerate(cells):
        for at in looks_of(cell):
            lookers[at].append(index)
    return lookers


def order_found(cells):
    """The order of a lot in which the least index comes next, `None` if it has a ring."""
    lookers = lookers_of(cells)
    lacking = [len(looks_of(cell)) for cell in cells]
    # An ascending list is a heap.
    ready = [index for index, many in enumerate(lacking) if many == 0]
    order = []
    while ready:
        index = heappop(ready)
        order.append(index)
        for looker in lookers[index]:
            lacking[looker] -= 1
            if lacking[looker] == 0:
                heappush(ready, looker)
    return tuple(order) if len(order) == len(cells) else None


def order_of(cells):
    """The order in which always the least index comes next that can, or `None`."""
    check_lot(cells)
    return order_found(cells)


def are_indices(value, many):
    """Whether the value is a tuple of indices of so many cells, each at most once."""
    if not is_tuple_of(value, 0, many) or not all([is_index(at, many) for at in value]):
        return False
    return are_unlike(value)


def is_order(cells, value):
    """Whether the value is an order of the lot."""
    check_lot(cells)
    if not are_indices(value, len(cells)) or len(value) != len(cells):
        return False
    places = {index: place for place, index in enumerate(value)}
    return all([places[at] < places[index] for index, cell in enumerate(cells) for at in looks_of(cell)])


def looks_back(lookers, start):
    """How many looks lead at least from a cell to the start, over no cell below the start."""
    ways = {start: 0}
    edge = [start]
    while edge:
        further = []
        for at in edge:
            for looker in lookers[at]:
                if looker > start and looker not in ways:
                    ways[looker] = ways[at] + 1
                    further.append(looker)
        edge = further
    return ways


def ring_from(cells, start, ways):
    """The least one of the shortest rings whose least index is the start."""
    ring = []
    at = start
    while len(ring) == 0 or at != start:
        ring.append(at)
        # The nearest cell comes first, and of equally near ones that with the least index.
        at = min([(ways[further], further) for further in looks_of(cells[at]) if further in ways])[1]
    return tuple(ring)


def ring_found(cells):
    """The least one of the shortest rings of a lot that has a ring."""
    lookers = lookers_of(cells)
    found = ()
    for start, cell in enumerate(cells):
        ways = looks_back(lookers, start)
        sizes = [ways[at] + 1 for at in looks_of(cell) if at in ways]
        if sizes and (len(found) == 0 or min(sizes) < len(found)):
            found = ring_from(cells, start, ways)
    return found


def least_ring(cells):
    """Of the rings with the fewest indices the least one, `None` if there is none."""
    check_lot(cells)
    if order_found(cells) is not None:
        return None
    if len(cells) > MAX_LOOSE:
        raise TooMany(MAX_LOOSE)
    return plainly_made(ring_found(cells))


def is_ring(cells, value):
    """Whether the value is a ring of the lot."""
    check_lot(cells)
    if not are_indices(value, len(cells)) or len(value) == 0 or value[0] != min(value):
        return False
    further = value[1:] + value[:1]
    return all([at in looks_of(cells[index]) for index, at in zip(value, further)])


def led_along(cell, places):
    """The cell with all its indices exchanged for their places."""
    if cell[0] == "keep":
        return (*cell[:3], places[cell[3]])
    return (cell[0], *[places[at] for at in cell[1:]]) if cell[0] in LOOKS else cell


def arranged(cells, outputs):
    """The net of a lot and its outputs, the cells in the sequence of `order_of`."""
    check_lot(cells)
    if not are_outputs(outputs, len(cells)):
        raise InvalidNet("these are no outputs of the lot")
    order = order_found(cells)
    if order is None:
        raise Refused(("ring", least_ring(cells)))
    places = {index: place for place, index in enumerate(order)}
    moved = tuple([led_along(cells[index], places) for index in order])
    return plainly_made((moved, tuple([(name, places[index]) for name, index in outputs])))


def inputs_of(net):
    """The names of all inputs, in the sequence of the cells."""
    check_net(net)
    return plainly_made(tuple(names_in(net[0], "in")))


def keepers_of(net):
    """The names of all keepers, in the sequence of the cells."""
    check_net(net)
    return plainly_made(tuple(names_in(net[0], "keep")))


def depths_found(cells):
    """The depths of the cells of a net."""
    found = []
    for cell in cells:
        found.append(max([found[at] + 1 for at in looks_of(cell)], default=0))
    return found


def depths(net):
    """The depths of all cells."""
    check_net(net)
    return tuple(depths_found(net[0]))


def longest_way(net):
    """A way with as many looks as the greatest depth."""
    check_net(net)
    deep = depths_found(net[0])
    if len(deep) == 0:
        return ()
    at = deep.index(max(deep))
    way = [at]
    while deep[at] > 0:
        at = [further for further in looks_of(net[0][at]) if deep[further] == deep[at] - 1][0]
        way.append(at)
    return plainly_made(tuple(way[::-1]))


def is_longest_way(net, value):
    """Whether the value is a way with as many looks as the greatest depth."""
    check_net(net)
    deep = depths_found(net[0])
    if not are_indices(value, len(deep)) or len(value) != max(deep, default=-1) + 1:
        return False
    return all([at in looks_of(net[0][index]) for at, index in zip(value, value[1:])])
