"""Near lines that are alike in beats, or parted by a few asks."""

from truebeat.base.checks import is_pair
from truebeat.errors import InvalidLines
from truebeat.near.lines import are_asks, are_blocks_unlike, check_idle, check_near
from truebeat.near.misses import are_victims, beats_told, lines_alone

FEW_BLOCKS = 2


def check_compared(near):
    """Refuse what is no near lines, or has a set with two lines that are on with one block."""
    check_near(near)
    if not are_blocks_unlike(near.lines):
        raise InvalidLines("two lines that are on have one block")


def check_both(one, other):
    """Refuse near lines that cannot be compared, then such as are not idle."""
    check_compared(one)
    check_compared(other)
    if (one.width, one.sets) != (other.width, other.sets):
        raise InvalidLines("the near lines have unlike widths or numbers of sets")
    check_idle(one)
    check_idle(other)


def blocks_on(lines):
    """The blocks of those of the lines that are on, ascending."""
    return sorted([line[1] for line in lines if line[0]])


def lonely_block(ones, others):
    """The least block that is on in just one of two sets, `None` if there is none."""
    both = blocks_on(ones) + blocks_on(others)
    return min([block for block in both if both.count(block) == 1], default=None)


def what_counts(line):
    """What of a line makes a difference in beats."""
    return line if line[0] else (False,)


def fresh_blocks(near, number, lines):
    """Two blocks of the set with this number that no line has that is on."""
    held = blocks_on(lines)
    blocks = [number + near.sets * turn for turn in range(4)]
    return [block for block in blocks if block not in held][:2]


def unlike_dirt(ones, others):
    """The first way whose lines, both on, are not equally dirty, `None` if there is none."""
    ways = [way for way in (0, 1) if ones[way][2] != others[way][2]]
    return min(ways, default=None)


def parted_full(ones, others, fresh):
    """Blocks and victims that part two sets with the same two blocks on, not in the same lines."""
    way = unlike_dirt(ones, others)
    if way is not None:
        return [fresh], [way]
    # The blocks stand in the other ways, so one of the sets keeps what the other one throws out.
    return [fresh, ones[0][1]], [0, 0]


def parted_half(ones, others, fresh):
    """Blocks and victims that part two sets with the same one block on, not in the same lines."""
    filled = [tuple([line if line[0] else (True, fresh[0], False) for line in lines]) for lines in (ones, others)]
    blocks, victims = parted_full(filled[0], filled[1], fresh[1])
    return [fresh[0], *blocks], victims


def parted_by_lines(near, number, ones, others):
    """Blocks and victims that part two sets with the same blocks on, `None` if they are alike."""
    if [what_counts(line) for line in ones] == [what_counts(line) for line in others]:
        return None
    fresh = fresh_blocks(near, number, ones)
    if len(blocks_on(ones)) == FEW_BLOCKS:
        return parted_full(ones, others, fresh[0])
    return parted_half(ones, others, fresh)


def has_few_blocks(near):
    """Whether a set has no more blocks than lines."""
    return (1 << (near.width - 1)) // near.sets <= FEW_BLOCKS


def parting_of_sets(near, number, ones, others):
    """Blocks and victims that part two sets with this number, `None` if they are alike."""
    lonely = lonely_block(ones, others)
    if lonely is not None:
        return [lonely], [0]
    return None if has_few_blocks(near) else parted_by_lines(near, number, ones, others)


def parting_asks(one, other):
    """Asks and victims with unlike numbers of beats, `None` if the near lines are alike in beats."""
    check_both(one, other)
    rows, others = lines_alone(one), lines_alone(other)
    for number in range(one.sets):
        first = 2 * number
        found = parting_of_sets(one, number, rows[first:first + 2], others[first:first + 2])
        if found is not None:
            return tuple([("read", 2 * block) for block in found[0]]), tuple(found[1])
    return None


def is_parting(one, other, value):
    """Whether the value is asks and victims with unlike numbers of beats."""
    check_both(one, other)
    if not is_pair(value) or not are_asks(one.width, value[0]) or not are_victims(value[1]):
        return False
    asks, victims = value
    told, others = beats_told(one, asks, victims), beats_told(other, asks, victims)
    return len(told) == len(others) == len(asks) and sum(told) != sum(others)
