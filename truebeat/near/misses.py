"""Misses of near lines, and what is best thrown out."""

from truebeat.base.checks import is_bit, is_tuple_of
from truebeat.errors import InvalidChoice, Refused
from truebeat.near.lines import MOST_ASKS, check_asks, check_idle, check_near
from truebeat.near.turns import first_of_set, free_line, line_with


def are_victims(value):
    """Whether the value is a row of victims, not too many."""
    return is_tuple_of(value, 0, MOST_ASKS) and all([is_bit(way) for way in value])


def is_full_miss(rows, block):
    """Whether a block is a miss that finds both lines on."""
    return line_with(rows, block) is None and free_line(rows, block) is None


def beats_for(rows, ask, victim):
    """How many beats an ask takes if the memory answers at each beat; the lines, a list, become those behind it.

    `victim` is the way that is thrown out if both lines are on.
    """
    block = ask[1] // 2
    at = line_with(rows, block)
    beats = 1
    if at is None:
        free = free_line(rows, block)
        at = first_of_set(rows, block) + victim if free is None else free
        beats = 6 if rows[at][0] and rows[at][2] else 4
        rows[at] = (True, block, False)
    rows[at] = (True, block, rows[at][2] or ask[0] == "write")
    return beats


def lines_alone(near):
    """What of the lines of near lines makes a difference in beats: on, block and dirty."""
    return [line[:3] for line in near.lines]


def beats_told(near, asks, victims):
    """How many beats each ask takes, up to the first one that wants one victim more than there are."""
    rows = lines_alone(near)
    told = []
    wanted = 0
    for ask in asks:
        victim = 0
        if is_full_miss(rows, ask[1] // 2):
            if wanted == len(victims):
                break
            victim = victims[wanted]
            wanted += 1
        told.append(beats_for(rows, ask, victim))
    return told


def misses(near, asks, victims):
    """The indices of the asks that are misses."""
    check_near(near)
    check_asks(near, asks)
    if not are_victims(victims):
        raise InvalidChoice("these are no victims")
    check_idle(near)
    told = beats_told(near, asks, victims)
    if len(told) < len(asks):
        raise Refused(("victims", len(told)))
    return tuple([index for index, beats in enumerate(told) if beats > 1])


def asked_later(rows, further):
    """The way, of two lines that are on, whose block is asked later, or never again."""
    blocks = [ask[1] // 2 for ask in further]
    soon = [blocks.index(line[1]) if line[1] in blocks else len(blocks) for line in rows]
    return 0 if soon[0] > soon[1] else 1


def best_victims(near, asks):
    """A row of victims with the fewest misses."""
    check_near(near)
    check_asks(near, asks)
    check_idle(near)
    rows = lines_alone(near)
    victims = []
    for index, ask in enumerate(asks):
        victim = 0
        if is_full_miss(rows, ask[1] // 2):
            first = first_of_set(rows, ask[1] // 2)
            victim = asked_later(rows[first:first + 2], asks[index + 1:])
            victims.append(victim)
        beats_for(rows, ask, victim)
    return tuple(victims)
