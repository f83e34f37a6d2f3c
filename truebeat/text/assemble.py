"""Assemblies: lines with labels, of which programs are made whose far branches take more words."""

from truebeat.base.checks import LETTERS, are_unlike, is_ascending, is_between, is_index, is_tuple_of
from truebeat.errors import InvalidLines, Refused, TooMany
from truebeat.plain.shapes import NO_WORD, check_shape
from truebeat.text.steps import step_by

MOST_LINES = 256
NEAR_LEAST = -32
NEAR_MOST = 31
FAR_SIZE = 4
MOST_MADE = 255
LONGEST_LABEL = 8
BRANCHES = ("same", "under")


def is_label_name(value):
    """Whether the value is a name of a label."""
    return isinstance(value, str) and 1 <= len(value) <= LONGEST_LABEL and all([sign in LETTERS for sign in value])


def is_branch(line):
    """Whether a good line is a branch."""
    return isinstance(line, tuple) and line[0] in BRANCHES


def is_label(line):
    """Whether a good line is a label."""
    return isinstance(line, tuple) and line[0] == "label"


def is_line(value):
    """Whether the value is a line of an assembly."""
    if not isinstance(value, tuple):
        return is_between(value, 0, NO_WORD)
    if len(value) < 2 or not isinstance(value[0], str) or not is_label_name(value[-1]):
        return False
    numbers = {"label": 0, "place": 1, "same": 2, "under": 2}
    if value[0] not in numbers or len(value) != numbers[value[0]] + 2:
        return False
    return all([is_between(number, 0, 7) for number in value[1:-1]])


def is_assembly(value):
    """Whether the value is an assembly."""
    if not is_tuple_of(value, 1, MOST_LINES) or not all([is_line(line) for line in value]):
        return False
    labels = [line[1] for line in value if is_label(line)]
    return are_unlike(labels) and all([line[-1] in labels for line in value if isinstance(line, tuple)])


def check_assembly(shape, lines):
    """Refuse a wrong shape, then what is no assembly."""
    check_shape(shape)
    if not is_assembly(lines):
        raise InvalidLines("this is no assembly")


def size_of(line, far):
    """How many words a line takes."""
    if is_label(line):
        return 0
    return FAR_SIZE if far else 1


def places_of(lines, far):
    """The places of all lines if the branches with the indices in a dict are far, and how many words there are."""
    places = []
    many = 0
    for index, line in enumerate(lines):
        places.append(many)
        many += size_of(line, index in far)
    return places, many


def labels_at(lines, places):
    """The places of all labels, by their names."""
    return {line[1]: places[index] for index, line in enumerate(lines) if is_label(line)}


def branches_of(lines):
    """The indices of all branches."""
    return [index for index, line in enumerate(lines) if is_branch(line)]


def out_of_reach(lines, far):
    """The indices of the near branches that do not reach if those in a dict are far."""
    places, _ = places_of(lines, far)
    labels = labels_at(lines, places)
    near = [index for index in branches_of(lines) if index not in far]
    ways = [(index, labels[lines[index][-1]] - places[index]) for index in near]
    return [index for index, way in ways if way < NEAR_LEAST or way > NEAR_MOST]


def far_branches(lines):
    """The branches of the least lot that fits, in the sequence in which it grows, as the keys of a dict."""
    far = {}
    found = out_of_reach(lines, far)
    while found:
        for index in found:
            far[index] = True
        found = out_of_reach(lines, far)
    return far


def far_lot(shape, lines):
    """The least lot that fits."""
    check_assembly(shape, lines)
    return tuple(sorted(far_branches(lines)))


def are_branches(lines, value):
    """Whether the value is a tuple of indices of branches."""
    if not is_tuple_of(value, 0, len(lines)) or not all([is_index(index, len(lines)) for index in value]):
        return False
    return all([is_branch(lines[index]) for index in value])


def does_fit(shape, lines, value):
    """Whether the value is a lot that fits."""
    check_assembly(shape, lines)
    if not are_branches(lines, value) or not is_ascending(value):
        return False
    return len(out_of_reach(lines, {index: True for index in value})) == 0


def far_reasons(shape, lines):
    """The branches of the least lot, each of which does not reach when those ahead of it are far."""
    check_assembly(shape, lines)
    # What does not reach when fewer branches are far does not reach when more are.
    return tuple(far_branches(lines))


def are_far_reasons(shape, lines, value):
    """Whether the value is the branches of the least lot, each out of reach when those ahead of it are far."""
    check_assembly(shape, lines)
    if not are_branches(lines, value) or sorted(value) != sorted(far_branches(lines)):
        return False
    far = {}
    for index in value:
        if index not in out_of_reach(lines, far):
            return False
        far[index] = True
    return True


def far_words(shape, line, place):
    """The words of a far branch to a place."""
    spare = shape.registers - 1
    return [
        step_by(line[0], (line[1], line[2], 2)), step_by("same", (0, 0, 3)), step_by("set", (spare, place)),
        step_by("jump", (0, spare, 0)),
    ]


def words_of_line(shape, line, at, labels, far):
    """The words of a line that stands at a place."""
    if is_label(line):
        return []
    if not isinstance(line, tuple):
        return [int(line)]
    place = labels[line[-1]]
    if line[0] == "place":
        return [step_by("set", (line[1], place))]
    if far:
        return far_words(shape, line, place)
    return [step_by(line[0], (line[1], line[2], place - at))]


def assemble(shape, lines):
    """The program with the least lot."""
    check_assembly(shape, lines)
    far = far_branches(lines)
    places, many = places_of(lines, far)
    most = min(MOST_MADE, (1 << shape.width) - 1)
    if many > most:
        raise TooMany(most)
    if many == 0:
        raise Refused(("empty",))
    labels = labels_at(lines, places)
    words = []
    for index, line in enumerate(lines):
        words.extend(words_of_line(shape, line, places[index], labels, index in far))
    return tuple(words)


def label_places(shape, lines):
    """The places of all labels with the least lot, by their names, ascending."""
    check_assembly(shape, lines)
    places, _ = places_of(lines, far_branches(lines))
    labels = labels_at(lines, places)
    return {name[:]: labels[name] for name in sorted(labels)}
