"""Near lines, which keep copies of a few blocks of a memory."""

from truebeat.base.checks import is_between, is_bit, is_pair, is_tuple_of, is_word_of, own_value, plainly_made
from truebeat.base.words import check_number
from truebeat.errors import InvalidAsk, InvalidChoice, InvalidLines, InvalidNumber, Refused
from truebeat.near.turns import Turning, beat_on, block_words, first_of_set, line_with, put_line, words_over
from truebeat.plain.shapes import LEAST_WIDTH, MOST_WIDTH, check_memory

MOST_SETS = 8
MOST_ASKS = 200
MOST_CHOICES = 5000


def is_block(width, value):
    """Whether the value is a block of a memory for words of so many bits."""
    return is_word_of(width - 1, value)


def is_line(width, sets, number, value):
    """Whether the value is a line of the set with this number."""
    if not is_tuple_of(value, 5, 5):
        return False
    on, block, dirty, low, high = value
    if not isinstance(on, bool) or not isinstance(dirty, bool) or not is_block(width, block):
        return False
    return block % sets == number and is_word_of(width, low) and is_word_of(width, high)


def are_lines(width, sets, value):
    """Whether the value is the lines of all sets."""
    if not is_tuple_of(value, 2 * sets, 2 * sets):
        return False
    return all([is_line(width, sets, at // 2, line) for at, line in enumerate(value)])


def is_turn(width, value):
    """Whether the value is a turn."""
    if not is_tuple_of(value, 4, 4):
        return False
    word, way, part, block = value
    return word in ("back", "fill") and is_bit(way) and is_bit(part) and is_block(width, block)


class Near:
    """Near lines: for each set the lines of way 0 and of way 1, and the turn. They never change."""

    def __init__(self, width, sets, lines=None, turn=None):
        check_number(width, LEAST_WIDTH, MOST_WIDTH)
        if not is_between(sets, 1, MOST_SETS) or sets not in (1, 2, 4, 8):
            raise InvalidNumber(own_value(sets))
        if lines is None:
            lines = tuple([(False, number // 2, False, 0, 0) for number in range(2 * sets)])
        if not are_lines(width, sets, lines):
            raise InvalidLines("these are no lines of so many sets")
        if turn is not None and not is_turn(width, turn):
            raise InvalidLines("this is no turn")
        self._width = int(width)
        self._sets = int(sets)
        self._lines = plainly_made(lines)
        self._turn = plainly_made(turn)

    @property
    def width(self):
        """The bits of a word."""
        return self._width

    @property
    def sets(self):
        """How many sets there are."""
        return self._sets

    @property
    def lines(self):
        """All lines, way 0 and way 1 of each set."""
        return self._lines

    @property
    def turn(self):
        """The turn, `None` if the lines are idle."""
        return self._turn

    def __eq__(self, other):
        return isinstance(other, Near) and all_of(self) == all_of(other)

    def __str__(self):
        return f"near lines of {self._sets} sets, {many_on(self)} on, {word_of_turn(self)}"


def all_of(near):
    """All that makes near lines what they are."""
    return near.width, near.sets, near.lines, near.turn


def many_on(near):
    """How many lines are on."""
    return len([line for line in near.lines if line[0]])


def word_of_turn(near):
    """What near lines do."""
    return "idle" if near.turn is None else near.turn[0]


def check_near(near):
    """Refuse what is no near lines."""
    if not isinstance(near, Near):
        raise InvalidLines("these are no near lines")


def check_idle(near):
    """Refuse near lines that have a turn."""
    if near.turn is not None:
        raise Refused(("turn",))


def is_ask(width, value):
    """Whether the value is an ask."""
    if is_pair(value):
        return value[0] == "read" and is_word_of(width, value[1])
    if not is_tuple_of(value, 3, 3):
        return False
    return value[0] == "write" and is_word_of(width, value[1]) and is_word_of(width, value[2])


def are_asks(width, value):
    """Whether the value is asks, not too many."""
    return is_tuple_of(value, 0, MOST_ASKS) and all([is_ask(width, ask) for ask in value])


def check_asks(near, asks):
    """Refuse what is no asks."""
    if not are_asks(near.width, asks):
        raise InvalidAsk("these are no asks")


def is_choice(value):
    """Whether the value is a choice: whether the memory answers, and a way."""
    return is_pair(value) and is_bit(value[0]) and is_bit(value[1])


def check_over(near, memory):
    """Refuse what is no near lines, then what is no memory for them."""
    check_near(near)
    check_memory(near.width, memory)


def is_line_kept(line, memory):
    """Whether a line that is on and not dirty has the words of the memory."""
    on, block, dirty, low, high = line
    return not on or dirty or (low, high) == block_words(memory, block)


def is_turn_kept(near, memory):
    """Whether a turn is one to which beats lead."""
    word, way, part, block = near.turn
    on, held, dirty, low, _ = near.lines[first_of_set(near.lines, block) + way]
    if line_with(near.lines, block) is not None:
        return False
    if word == "back":
        return on and dirty and (part == 0 or low == block_words(memory, held)[0])
    return not on and (part == 0 or low == block_words(memory, block)[0])


def are_blocks_unlike(lines):
    """Whether no set has both lines on with one block."""
    pairs = [(one, other) for one, other in zip(lines[0::2], lines[1::2]) if one[0] and other[0]]
    return all([one[1] != other[1] for one, other in pairs])


def are_kept_lines(near, memory):
    """Whether good near lines are kept for a good memory."""
    if not are_blocks_unlike(near.lines) or not all([is_line_kept(line, memory) for line in near.lines]):
        return False
    return near.turn is None or is_turn_kept(near, memory)


def is_kept_near(near, memory):
    """Whether the lines are kept for the memory."""
    check_over(near, memory)
    return are_kept_lines(near, memory)


def near_words(near, memory):
    """The words of the lines over the memory."""
    check_over(near, memory)
    return plainly_made(words_over(near.lines, memory))


def turning_of(near, memory):
    """Near lines and a memory that may change."""
    return Turning(list(near.lines), near.turn, {place: memory[place] for place in memory})


def near_of(near, turning):
    """The near lines to which changing ones have come."""
    return Near(near.width, near.sets, tuple(turning.rows), turning.doing)


def near_beat(near, memory, ask, choice):
    """The near lines, the memory and the answer behind a beat."""
    check_over(near, memory)
    if ask is not None and not is_ask(near.width, ask):
        raise InvalidAsk("this is no ask")
    if not is_choice(choice):
        raise InvalidChoice("this is no choice")
    turning = turning_of(near, memory)
    answer = beat_on(turning, ask, choice)
    return near_of(near, turning), plainly_made(turning.store), plainly_made(answer)


def near_run(near, memory, asks, choices):
    """The near lines, the memory, the answers and the number of beats behind asks, one after the other."""
    check_over(near, memory)
    check_asks(near, asks)
    if not is_tuple_of(choices, 0, MOST_CHOICES) or not all([is_choice(choice) for choice in choices]):
        raise InvalidChoice("these are no choices")
    turning = turning_of(near, memory)
    told = []
    beats = 0
    while len(told) < len(asks) and beats < len(choices):
        answer = beat_on(turning, asks[len(told)], choices[beats])
        beats += 1
        if answer is not None:
            told.append(answer)
    return near_of(near, turning), plainly_made(turning.store), plainly_made(tuple(told)), beats


def cleaned(near, memory):
    """The near lines and the memory once each dirty line that is on is written."""
    check_over(near, memory)
    check_idle(near)
    if not are_kept_lines(near, memory):
        raise Refused(("kept",))
    store = {place: memory[place] for place in memory}
    rows = []
    for line in near.lines:
        on, block, dirty, low, high = line
        if on and dirty:
            put_line(store, line)
        rows.append((on, block, dirty and not on, low, high))
    return Near(near.width, near.sets, tuple(rows)), plainly_made(store)
