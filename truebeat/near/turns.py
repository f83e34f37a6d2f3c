"""What near lines do from beat to beat: rows of lines, a turn and a memory that change.

A line is a tuple (on, block, dirty, low, high), a turn is `None` or a tuple (word, way, part, block).
"""

from truebeat.plain.deeds import put_word


class Turning:
    """Near lines that change, over a memory that changes with them."""

    def __init__(self, rows, doing, store):
        self.rows = rows
        self.doing = doing
        self.store = store


def first_of_set(rows, block):
    """The index of the line of way 0 of the set to which a block belongs."""
    return 2 * (block % (len(rows) // 2))


def line_with(rows, block):
    """The index of the line that is on with this block, that of way 0 first, `None` if there is none."""
    first = first_of_set(rows, block)
    for at in (first, first + 1):
        if rows[at][0] and rows[at][1] == block:
            return at
    return None


def free_line(rows, block):
    """The index of the first line of the block's set that is not on, `None` if both are."""
    first = first_of_set(rows, block)
    for at in (first, first + 1):
        if not rows[at][0]:
            return at
    return None


def word_in(store, place):
    """The word of a memory at a place."""
    return store.get(place, 0)


def block_words(store, block):
    """Both words of a memory at the places of a block."""
    return word_in(store, 2 * block), word_in(store, 2 * block + 1)


def put_line(store, line):
    """Let the words of a line stand at its places of a memory."""
    _, block, _, low, high = line
    put_word(store, 2 * block, low)
    put_word(store, 2 * block + 1, high)


def words_over(rows, store):
    """The words of lines over a memory, those of way 1 put behind those of way 0."""
    found = {place: store[place] for place in store}
    for line in rows[0::2] + rows[1::2]:
        if line[0]:
            put_line(found, line)
    return {place: found[place] for place in sorted(found)}


def word_over(rows, store, place):
    """The word of lines over a memory at one place."""
    first = first_of_set(rows, place // 2)
    for at in (first + 1, first):
        if rows[at][0] and rows[at][1] == place // 2:
            return rows[at][3 + place % 2]
    return word_in(store, place)


def answered_by(turning, at, ask):
    """The answer of the line with an index, which has the place that is asked."""
    _, block, _, low, high = turning.rows[at]
    words = [low, high]
    if ask[0] == "read":
        return "read", words[ask[1] % 2]
    words[ask[1] % 2] = ask[2]
    turning.rows[at] = (True, block, True, words[0], words[1])
    return ("write",)


def begin_turn(turning, block, victim):
    """Let the turn begin of a miss of a block."""
    first = first_of_set(turning.rows, block)
    free = free_line(turning.rows, block)
    at = first + victim if free is None else free
    on, held, dirty, low, high = turning.rows[at]
    if on and dirty:
        turning.doing = ("back", at - first, 0, block)
    else:
        turning.rows[at] = (False, held, dirty, low, high)
        turning.doing = ("fill", at - first, 0, block)


def write_back(turning, at):
    """Let one word of a line go to the memory."""
    _, way, part, block = turning.doing
    _, held, dirty, low, high = turning.rows[at]
    put_word(turning.store, 2 * held + part, high if part == 1 else low)
    if part == 0:
        turning.doing = ("back", way, 1, block)
    else:
        turning.rows[at] = (False, held, dirty, low, high)
        turning.doing = ("fill", way, 0, block)


def fill_in(turning, at):
    """Let one word of the memory come to a line."""
    _, way, part, block = turning.doing
    on, held, dirty, low, high = turning.rows[at]
    word = word_in(turning.store, 2 * block + part)
    if part == 0:
        turning.rows[at] = (on, held, dirty, word, high)
        turning.doing = ("fill", way, 1, block)
    else:
        turning.rows[at] = (True, block, False, low, word)
        turning.doing = None


def do_part(turning):
    """Let a turn go on, once the memory answers."""
    word, way, _, block = turning.doing
    at = first_of_set(turning.rows, block) + way
    if word == "back":
        write_back(turning, at)
    else:
        fill_in(turning, at)


def beat_on(turning, ask, choice):
    """Let near lines do what they do in a beat; the answer, `None` if there is none."""
    ready, victim = choice
    if turning.doing is not None:
        if ready == 1:
            do_part(turning)
        return None
    if ask is None:
        return None
    at = line_with(turning.rows, ask[1] // 2)
    if at is not None:
        return answered_by(turning, at, ask)
    begin_turn(turning, ask[1] // 2, victim)
    return None
