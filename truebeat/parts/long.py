"""Long parts: products and quotients made in rounds, some of them at each beat."""

from truebeat.base.checks import is_index, is_tuple_of, is_word_of, plainly_made
from truebeat.base.words import check_number
from truebeat.errors import InvalidAsk, InvalidState
from truebeat.nets.wiring import put
from truebeat.sheets.lay import lay

MAX_LONG = 16
MAX_STEP = 4
MAX_ASKS = 400
KINDS = ("times", "part", "rest")
IDLE = ("none", 0, 0, 0, 0, 0)
LEFT_BITS = 5


def check_long(width, step):
    """Refuse a wrong width, then a wrong number of rounds in a beat."""
    check_number(width, 1, MAX_LONG)
    check_number(step, 1, MAX_STEP)


def quotient_and_rest(one, other, bits):
    """Quotient and rest of a word of so many bits; a division by 0 leaves all of it, and a bit 1 for each of its."""
    return ((1 << bits) - 1, one) if other == 0 else (one // other, one % other)


def reached_words(width, kind, first, second, left):
    """The words that the rounds made so far lead to."""
    done = width - left
    if kind == "times":
        return first * (second >> left) % (1 << width), (second << done) % (1 << width)
    quotient, rest = quotient_and_rest(first >> left, second, done)
    return rest, ((first << done) + quotient) % (1 << width)


def is_long_state(width, step, value):
    """Whether the value is a state to which some asks lead, for a good width and step."""
    if not is_tuple_of(value, 6, 6):
        return False
    kind, first, second, left, one, two = value
    if not all([is_word_of(width, word) for word in (first, second, one, two)]) or not is_index(left, width + 1):
        return False
    if kind not in KINDS:
        return value == IDLE
    if left > 0 and (width - left) % step != 0:
        return False
    return (one, two) == reached_words(width, kind, first, second, left)


def is_long(width, step, value):
    """Whether the value is a state to which some asks lead."""
    check_long(width, step)
    return is_long_state(width, step, value)


def is_ask(width, value):
    """Whether the value is an ask."""
    if value is None:
        return True
    if is_tuple_of(value, 1, 1):
        return value[0] == "stop"
    if not is_tuple_of(value, 4, 4) or value[0] != "begin" or value[1] not in KINDS:
        return False
    return is_word_of(width, value[2]) and is_word_of(width, value[3])


def round_behind(width, state):
    """The state behind one round."""
    kind, first, second, left, one, two = state
    top, fit = two >> (width - 1), 1 << width
    if kind == "times":
        return kind, first, second, left - 1, (2 * one + top * first) % fit, 2 * two % fit
    # The doubled rest may have one bit more than a word, and all of it is compared.
    doubled = 2 * one + top
    if doubled >= second:
        return kind, first, second, left - 1, (doubled - second) % fit, (2 * two + 1) % fit
    return kind, first, second, left - 1, doubled % fit, 2 * two % fit


def beat_behind(width, step, state, ask):
    """The state behind a beat, and the result."""
    if ask is not None:
        if ask[0] == "stop":
            return IDLE, None
        _, kind, first, second = ask
        return (kind, first, second, width, 0, second if kind == "times" else first), None
    if state == IDLE:
        return IDLE, None
    if state[3] == 0:
        return IDLE, state[5] if state[0] == "part" else state[4]
    for _ in range(min(step, state[3])):
        state = round_behind(width, state)
    return state, None


def long_beat(width, step, state, ask):
    """The state behind a beat, and the result or `None`."""
    check_long(width, step)
    if not is_long_state(width, step, state):
        raise InvalidState("no asks lead to this")
    if not is_ask(width, ask):
        raise InvalidAsk("this is no ask")
    return plainly_made(beat_behind(width, step, state, ask))


def long_run(width, step, asks):
    """What is told in each beat, from the idle state on."""
    check_long(width, step)
    if not is_tuple_of(asks, 0, MAX_ASKS) or not all([is_ask(width, ask) for ask in asks]):
        raise InvalidAsk("these are no asks")
    told = []
    state = IDLE
    for ask in asks:
        state, result = beat_behind(width, step, state, ask)
        told.append(result)
    return tuple(told)


def put_doubled(lines, low, row, width):
    """The line of a word doubled, with a new lowest bit."""
    return put(lines, "cut", put(lines, "join", low, row), 0, width)


def put_round(lines, width, times, held, state):
    """The lines of one round, made if rounds are left: those of `left`, `one` and `two` behind it."""
    left, one, two = state
    top = put(lines, "cut", two, width - 1, 1)
    doubled = put(lines, "join", top, one)
    other = put(lines, "wide", held, width + 1)
    rest = put(lines, "less_by", doubled, other)
    fits = put(lines, "not", put(lines, "below", doubled, other))
    divided = put(lines, "cut", put(lines, "pick", fits, rest, doubled), 0, width)
    none, zero = put(lines, "told", width, 0), put(lines, "told", 1, 0)
    more = put(lines, "pick", top, held, none)
    multiplied = put(lines, "add", put_doubled(lines, zero, one, width), more)
    low = put(lines, "and", fits, put(lines, "not", times))
    fresh = (
        put(lines, "less_by", left, put(lines, "told", LEFT_BITS, 1)),
        put(lines, "pick", times, multiplied, divided),
        put_doubled(lines, low, two, width),
    )
    going = put(lines, "any", left)
    return [put(lines, "pick", going, behind, ahead) for behind, ahead in zip(fresh, state)]


def put_ports(lines, width):
    """The lines of the inputs: begin, stop, kind, x and y."""
    return [put(lines, "in", name, bits)
            for name, bits in (("begin", 1), ("stop", 1), ("kind", 2), ("x", width), ("y", width))]


def put_keepers(lines, width):
    """The lines of the keepers: on, times, part, held, left, one and two."""
    flags = [put(lines, "keep", name, 1, 0, len(lines)) for name in ("on", "times", "part")]
    words = (("held", width), ("left", LEFT_BITS), ("one", width), ("two", width))
    return flags + [put(lines, "keep", name, bits, 0, len(lines)) for name, bits in words]


def feed_keeper(lines, keeper, line):
    """Let a line feed a keeper."""
    lines[keeper] = (*lines[keeper][:4], line)


def put_begun(lines, width, ports):
    """The lines of what is kept behind a begin, but for `on`."""
    kind, first, second = ports[2:]
    times = put(lines, "not", put(lines, "any", kind))
    part = put(lines, "same", kind, put(lines, "told", 2, 1))
    return [
        times, part,
        put(lines, "pick", times, first, second),
        put(lines, "told", LEFT_BITS, width),
        put(lines, "told", width, 0),
        put(lines, "pick", times, second, first),
    ]


def long_sheet(width, step):
    """The sheet of a long part."""
    lines = []
    ports = put_ports(lines, width)
    on, times, part, held, left, one, two = put_keepers(lines, width)
    begin, stop = ports[:2]
    asked = put(lines, "or", begin, stop)
    alone = put(lines, "and", on, put(lines, "not", asked))
    going = put(lines, "any", left)
    done = put(lines, "and", alone, put(lines, "not", going))
    told = put(lines, "pick", part, two, one)
    result = put(lines, "pick", done, told, put(lines, "told", width, 0))
    feed_keeper(lines, on, put(lines, "or", begin, put(lines, "and", alone, going)))
    state = [left, one, two]
    for _ in range(step):
        state = put_round(lines, width, times, held, state)
    kept = [times, part, held, left, one, two]
    begun = put_begun(lines, width, ports)
    for keeper, fresh, further in zip(kept, begun, [times, part, held] + state):
        feed_keeper(lines, keeper, put(lines, "pick", begin, fresh, further))
    return tuple(lines), (("done", done), ("busy", on), ("result", result))


def long_net(width, step):
    """A net that works as a long part."""
    check_long(width, step)
    return lay(long_sheet(width, step))
