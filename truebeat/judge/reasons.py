"""Classes of the cells of nets, and the reasons for them.

Here a class is a number: 0 and 1 are the classes of the bits 0 and 1, and 2 k + 2 + s is the class (k, s).
So the opposite of a class differs from it in the lowest bit alone.
"""

from truebeat.base.checks import is_bit, is_index, is_pair, is_tuple_of
from truebeat.nets.net import LOOKS

HARD = {"and": True, "or": True, "xor": True, "pick": True, "keep": True}


def own_class(index):
    """The class of a cell that is its own."""
    return 2 * index + 2


def is_owner(cells, classes, index):
    """Whether a cell can be its own, and is."""
    return classes[index] == own_class(index) and (cells[index][0] == "in" or cells[index][0] in HARD)


def pair_of_class(number):
    """The class as the pair of an index or `None` and of a bit."""
    return (None, number) if number < 2 else (number // 2 - 1, number % 2)


def is_class_pair(value, many):
    """Whether the value is a pair of `None` or the index of one of so many cells, and of a bit."""
    return is_pair(value) and (value[0] is None or is_index(value[0], many)) and is_bit(value[1])


def classes_told(value, many):
    """The numbers of the classes of so many cells, `None` if the value does not tell them."""
    if not is_tuple_of(value, many, many) or not all([is_class_pair(pair, many) for pair in value]):
        return None
    return [pair[1] if pair[0] is None else own_class(pair[0]) + pair[1] for pair in value]


def simple_and(one, other):
    if one == 0 or other == 0 or one == other ^ 1:
        return 0
    if other == 1 or one == other:
        return one
    return other if one == 1 else None


def simple_or(one, other):
    if one == 1 or other == 1 or one == other ^ 1:
        return 1
    if other == 0 or one == other:
        return one
    return other if one == 0 else None


def simple_xor(one, other):
    if one >> 1 == other >> 1:
        return (one ^ other) & 1
    # Beside a bit the other class stays, or is turned.
    return one ^ other if one < 2 or other < 2 else None


def simple_pick(chosen, one, other):
    if chosen == 1 or one == other:
        return one
    if chosen == 0:
        return other
    # Of two unlike bits it picks the first one's class, or the opposite one.
    return chosen ^ other if one < 2 and other < 2 else None


SIMPLE = {"and": simple_and, "or": simple_or, "xor": simple_xor, "pick": simple_pick}


def simple_class(word, looks):
    """The class that a cell of this kind has by the classes at which it looks alone, `None` if it has none."""
    if word == "one":
        return 1
    if word == "not":
        return looks[0] ^ 1
    work = SIMPLE[word]
    return work(*looks)


def key_of(word, looks):
    """What cells of a kind and, by turns, of classes at which they look have in common, and whether it is turned."""
    if word == "xor":
        one, other = looks
        turned = (one ^ other) & 1
        return (word, min(one & -2, other & -2), max(one & -2, other & -2)), turned
    if word == "pick":
        chosen, one, other = looks
        return ((word, chosen, one, other) if chosen % 2 == 0 else (word, chosen ^ 1, other, one)), 0
    one, other = looks
    return (word, min(one, other), max(one, other)), 0


def looks_classes(cell, classes):
    """The classes of the cells at which a cell looks."""
    return [classes[at] for at in cell[1:]] if cell[0] in LOOKS else []


def has_like_owner(cells, classes, index):
    """Whether the class of a hard cell is that of a cell which is its own and does the same, or the opposite."""
    cell, wanted = cells[index], classes[index]
    if wanted < 2:
        return False
    owner = wanted // 2 - 1
    if not is_owner(cells, classes, owner) or cells[owner][0] != cell[0]:
        return False
    key, turned = key_of(cell[0], looks_classes(cell, classes))
    right, owner_turned = key_of(cell[0], looks_classes(cells[owner], classes))
    return key == right and wanted % 2 == turned ^ owner_turned


def has_kept_class(cells, classes, index):
    """Whether the class of a keeper, which is not its own, has a reason."""
    _, _, first, fed = cells[index]
    wanted = classes[index]
    if first is None:
        return False
    if wanted < 2:
        return wanted == first and classes[fed] == wanted
    owner = wanted // 2 - 1
    if not is_owner(cells, classes, owner) or cells[owner][0] != "keep" or cells[owner][2] is None:
        return False
    turned = wanted % 2
    return cells[owner][2] == first ^ turned and classes[cells[owner][3]] == classes[fed] ^ turned


def has_reason(cells, classes, index):
    """Whether a cell is its own, or has a reason for its class."""
    cell = cells[index]
    if is_owner(cells, classes, index):
        return True
    if cell[0] == "keep":
        return has_kept_class(cells, classes, index)
    if cell[0] == "in":
        return False
    if simple_class(cell[0], looks_classes(cell, classes)) == classes[index]:
        return True
    return cell[0] in HARD and has_like_owner(cells, classes, index)


def classes_by(cells, kept):
    """The coarsest classes of all cells, by those of the keepers."""
    classes = []
    owners = {}
    for index, cell in enumerate(cells):
        if cell[0] == "keep":
            classes.append(kept[index])
        elif cell[0] == "in":
            classes.append(own_class(index))
        else:
            classes.append(class_of_gate(cell[0], [classes[at] for at in cell[1:]], owners, index))
    return classes


def class_of_gate(word, looks, owners, index):
    """The class of a gate, which is put down as the owner of what it does if it is the first one."""
    simple = simple_class(word, looks)
    if simple is not None:
        return simple
    key, turned = key_of(word, looks)
    if key not in owners:
        owners[key] = own_class(index) + turned
    return owners[key] ^ turned


def kept_by(cells, classes):
    """The classes of the keepers, by those of the cells that feed them."""
    owners = {}
    kept = {}
    for index, cell in enumerate(cells):
        if cell[0] == "keep" and cell[2] is None:
            kept[index] = own_class(index)
        elif cell[0] == "keep":
            # A keeper that begins with 1 is looked at turned, so that all of them begin with 0.
            fed = classes[cell[3]] ^ cell[2]
            if fed not in owners:
                owners[fed] = 0 if fed == 0 else own_class(index) + cell[2]
            kept[index] = owners[fed] ^ cell[2]
    return kept


def coarsest_classes(cells):
    """The coarsest right classes of a net: at first all keepers are alike, until each one has its reason."""
    kept = {index: own_class(index) if cell[2] is None else cell[2]
            for index, cell in enumerate(cells) if cell[0] == "keep"}
    while True:
        classes = classes_by(cells, kept)
        further = kept_by(cells, classes)
        if further == kept:
            return classes
        kept = further
