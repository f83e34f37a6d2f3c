"""Lesser nets: what cells have in common at all beats, and nets with as few hard cells as that allows."""

from truebeat.base.checks import is_index, is_pair, is_tuple_of, plainly_made
from truebeat.errors import TooMany
from truebeat.judge.reasons import HARD, classes_told, coarsest_classes, has_reason, is_owner, looks_classes
from truebeat.judge.reasons import own_class, pair_of_class
from truebeat.nets.net import check_net, is_net

MOST_LESSENED = 5999


def right_classes(cells, value):
    """The numbers of the classes that the value tells, `None` if these are not right."""
    classes = classes_told(value, len(cells))
    if classes is None or not all([has_reason(cells, classes, index) for index in range(len(cells))]):
        return None
    return classes


def are_classes(net, value):
    """Whether the value is right classes of the net."""
    check_net(net)
    return right_classes(net[0], value) is not None


def wire_classes(net):
    """The coarsest right classes of the net."""
    check_net(net)
    return plainly_made(tuple([pair_of_class(number) for number in coarsest_classes(net[0])]))


def are_places(value, many, others):
    """Whether the value has for so many cells `None` or the index of one of the others, none of these twice."""
    if not is_tuple_of(value, many, many):
        return False
    met = set()
    for place in value:
        if place is not None:
            if not is_index(place, others) or place in met:
                return False
            met.add(place)
    return True


def what_stands(others, places):
    """The classes for which the cells of the other net stand, `None` for those that stand for none."""
    placed = {place: index for index, place in enumerate(places) if place is not None}
    found = []
    for at, cell in enumerate(others):
        if at in placed:
            found.append(own_class(placed[at]))
        elif cell[0] == "not" and found[cell[1]] is not None:
            found.append(found[cell[1]] ^ 1)
        else:
            found.append(1 if cell[0] == "one" else None)
    return found


def fed_classes(cell, classes):
    """The classes of the cells at which a cell looks, or by which it is fed."""
    return [classes[cell[3]]] if cell[0] == "keep" else looks_classes(cell, classes)


def is_placed_well(cell, other, classes, standing):
    """Whether a cell, its own, can have the other one as its place."""
    if cell[0] != other[0] or (cell[0] == "in" and cell[1] != other[1]):
        return False
    if cell[0] == "keep" and cell[2] != other[2]:
        return False
    return fed_classes(cell, classes) == fed_classes(other, standing)


def is_wire_paper_for(net, other, value):
    """Whether the value is a paper of wires, for good nets."""
    cells, others = net[0], other[0]
    if not is_pair(value) or not are_places(value[1], len(cells), len(others)):
        return False
    classes = right_classes(cells, value[0])
    if classes is None:
        return False
    standing = what_stands(others, value[1])
    for index, place in enumerate(value[1]):
        if place is not None:
            if not is_owner(cells, classes, index):
                return False
            if not is_placed_well(cells[index], others[place], classes, standing):
                return False
    told = {name: classes[index] for name, index in net[1]}
    return told == {name: standing[index] for name, index in other[1]}


def is_wire_paper(net, other, value):
    """Whether the value is a paper of wires from the net to the other one."""
    check_net(net)
    check_net(other)
    return is_wire_paper_for(net, other, value)


def check_lessened(net):
    """Refuse what is no net, then one with too many cells."""
    check_net(net)
    if len(net[0]) > MOST_LESSENED:
        raise TooMany(MOST_LESSENED)


def heard_cells(net, classes):
    """The indices of all heard cells, as the keys of a dict."""
    cells, outputs = net
    heard = {}
    edge = [classes[index] for _, index in outputs]
    while edge:
        number = edge.pop()
        if number > 1 and number // 2 - 1 not in heard:
            heard[number // 2 - 1] = True
            edge.extend(fed_classes(cells[number // 2 - 1], classes))
    return heard


def count_hard(cells, indices):
    """How many of the cells with these indices are hard."""
    return len([index for index in indices if cells[index][0] in HARD])


class Lessening:
    """A lesser net that grows: its cells, and the index of the cell that stands for each class."""

    def __init__(self):
        self.cells = []
        self.standing = {}


def put_standing(lessening, number, cell):
    """Put a cell that stands for a class behind the others."""
    lessening.standing[number] = len(lessening.cells)
    lessening.cells.append(cell)


def standing_for(lessening, number):
    """The index of a cell that stands for a class, which is put there if there is none."""
    if number not in lessening.standing:
        if number == 1:
            put_standing(lessening, 1, ("one",))
        else:
            put_standing(lessening, number, ("not", standing_for(lessening, number ^ 1)))
    return lessening.standing[number]


def lesser_cells(cells, classes, heard):
    """The lesser net of the heard cells, with all inputs, so that it is fed as the net is."""
    lessening = Lessening()
    placed = [index for index, cell in enumerate(cells) if cell[0] == "in" or index in heard]
    for index in placed:
        cell = cells[index]
        if cell[0] not in ("in", "keep"):
            cell = (cell[0], *[standing_for(lessening, classes[at]) for at in cell[1:]])
        put_standing(lessening, own_class(index), cell)
    for index in placed:
        if cells[index][0] == "keep":
            # Now all that can feed it is there.
            fed = standing_for(lessening, classes[cells[index][3]])
            lessening.cells[lessening.standing[own_class(index)]] = (*cells[index][:3], fed)
    return lessening


def lesser(net):
    """A net with as few hard cells as any with a paper of wires from the net, and such a paper."""
    check_lessened(net)
    cells, outputs = net
    classes = coarsest_classes(cells)
    lessening = lesser_cells(cells, classes, heard_cells(net, classes))
    ports = tuple([(name, standing_for(lessening, classes[index])) for name, index in outputs])
    places = [lessening.standing.get(own_class(index)) if is_owner(cells, classes, index) else None
              for index in range(len(cells))]
    paper = (tuple([pair_of_class(number) for number in classes]), tuple(places))
    return plainly_made(((tuple(lessening.cells), ports), paper))


def least_hard(net):
    """The least number of hard cells of a net to which there is a paper of wires."""
    check_lessened(net)
    return count_hard(net[0], list(heard_cells(net, coarsest_classes(net[0]))))


def is_lesser(net, value):
    """Whether the value is a net with as few hard cells as can be, and a paper of wires to it."""
    check_lessened(net)
    if not is_pair(value) or not is_net(value[0]):
        return False
    others = value[0][0]
    if count_hard(others, list(range(len(others)))) != least_hard(net):
        return False
    return is_wire_paper_for(net, value[0], value[1])
