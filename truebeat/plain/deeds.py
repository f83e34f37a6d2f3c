"""What single steps do, by the two values that they read: the same for each machine that does them."""

from truebeat.base.words import signed
from truebeat.plain.shapes import fields, is_long_kind

ENDS = (None, ("end",), ("fault", "word"), ("fault", "divide"))
NEAR_BITS = 6
FAR_BITS = 9
LOAD = 1
STORE = 2


def read_fields(op, a, b, c):
    """The fields that tell which registers a step reads, the first value's first."""
    if op < 8:
        return b, c
    if op in (8, 10, 14):
        return (b,)
    if op == 11:
        return b, a
    if op == 12 or op == 13 or is_long_kind(op, c):
        return a, b
    return (a,) if op == 15 and c in (1, 3) else ()


def reads_found(shape, word):
    """The numbers of the registers that a step word reads."""
    op, a, b, c = fields(word)
    return tuple([number % shape.registers for number in read_fields(op, a, b, c)])


def values_read(shape, word, held):
    """The two values that a step word reads from registers, 0 where it reads none."""
    values = [held[number] for number in reads_found(shape, word)] + [0, 0]
    return values[0], values[1]


def near_number(word):
    """The signed number of the six lowest bits."""
    return signed(NEAR_BITS, word & 63)


def far_number(word):
    """The signed number of the nine lowest bits."""
    return signed(FAR_BITS, word & 511)


class Deed:
    """What a step does.

    `code` is 1 for an end and 2 or 3 for a fault, otherwise 0; `asks` is LOAD or STORE, at `place`, or 0.
    `result` is the word for its register, `shown` the word that it puts out, `allows` whether bells are
    allowed behind it: each of them `None` if there is none, or if the step leaves that as it is.
    """

    def __init__(self, further):
        self.further = further
        self.code = 0
        self.asks = 0
        self.place = 0
        self.result = None
        self.shown = None
        self.allows = None


def reckoned(width, op, word, one, two):
    """What a step with an op up to 9 gives, not cut to the width."""
    if op == 5:
        return 1 if signed(width, one) < signed(width, two) else 0
    if op == 6:
        return one << two % 16
    if op == 7:
        return one >> two % 16
    if op == 8:
        return one + near_number(word)
    if op == 9:
        return far_number(word)
    return (one + two, one - two, one & two, one | two, one ^ two)[op]


def do_long(deed, width, c, one, two):
    """What a product, a quotient or a rest is, or the fault of a division by 0."""
    if c == 4:
        deed.result = one * two % (1 << width)
    elif two == 0:
        deed.code = 3
    else:
        deed.result = one // two if c == 5 else one % two


def do_special(deed, width, c, values, saved):
    """What a step with the op 15 does."""
    one, two = values
    if c == 0:
        deed.code = 1
    elif c == 1:
        deed.shown = one
    elif c == 2:
        deed.further, deed.allows = saved, 1
    elif c == 3:
        deed.allows = one & 1
    elif c <= 6:
        do_long(deed, width, c, one, two)
    else:
        deed.code = 2


def is_taken(width, op, one, two):
    """Whether a branch with the op 12 or 13 is taken."""
    return one == two if op == 12 else signed(width, one) < signed(width, two)


def deed_of(width, word, values, pc, saved):
    """What a step word does with its two values, at its place."""
    op, _, _, c = fields(word)
    one, two = values
    fit = 1 << width
    deed = Deed((pc + 1) % fit)
    if op < 10:
        deed.result = reckoned(width, op, word, one, two) % fit
    elif op < 12:
        deed.asks, deed.place = op - 9, (one + near_number(word)) % fit
    elif op < 14:
        if is_taken(width, op, one, two):
            deed.further = (pc + near_number(word)) % fit
    elif op == 14:
        deed.result, deed.further = deed.further, (one + near_number(word)) % fit
    else:
        do_special(deed, width, c, values, saved)
    return deed


def put_word(memory, place, word):
    """Let a word stand at a place of a memory, which has no places with 0."""
    if word > 0:
        memory[place] = word
    elif place in memory:
        del memory[place]
