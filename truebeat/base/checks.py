"""Whether single values are what the functions of the package ask for."""

LEAST_TOO_LONG = 10 ** 60
LETTERS = "abcdefghijklmnopqrstuvwxyz"
SIGNS = "abcdefghijklmnopqrstuvwxyz0123456789_."
LONGEST_NAME = 24


def is_integer(value):
    """Whether the value is an integer of at most 60 digits, and no boolean."""
    return isinstance(value, int) and not isinstance(value, bool) and -LEAST_TOO_LONG < value < LEAST_TOO_LONG


def is_between(value, least, most):
    """Whether the value is an integer from the least to the most."""
    return is_integer(value) and least <= value <= most


def is_bit(value):
    """Whether the value is the integer 0 or 1."""
    return is_between(value, 0, 1)


def is_index(value, many):
    """Whether the value is the index of one of so many things."""
    return is_between(value, 0, many - 1)


def is_word_of(bits, value):
    """Whether the value is a word of so many bits."""
    return is_between(value, 0, (1 << bits) - 1)


def is_pair(value):
    """Whether the value is a tuple of two."""
    return isinstance(value, tuple) and len(value) == 2


def is_tuple_of(value, least, most):
    """Whether the value is a tuple with so many members."""
    return isinstance(value, tuple) and least <= len(value) <= most


def is_name(value):
    """Whether the value is a name of an input, a keeper or an output of a net."""
    if not isinstance(value, str) or not 1 <= len(value) <= LONGEST_NAME:
        return False
    return value[0] in LETTERS and all([sign in SIGNS for sign in value])


def are_unlike(names):
    """Whether no two of the names are equal."""
    return len(set(names)) == len(names)


def is_ascending(values):
    """Whether the values, which can be compared, ascend strictly."""
    return all([one < other for one, other in zip(values, values[1:])])


def are_words(value, widths):
    """Whether the value is a dict with just the names of a dict of widths, to words of these widths."""
    if not isinstance(value, dict) or len(value) != len(widths):
        return False
    return all([name in value and is_word_of(widths[name], value[name]) for name in widths])


def is_bit_dict(value, names):
    """Whether the value is a dict from just these names to bits."""
    return are_words(value, {name: 1 for name in names})


def own_value(value):
    """A wrong value as errors keep it: an integer or a string is of Python's own types."""
    if isinstance(value, int) and not isinstance(value, bool):
        return int(value)
    return value[:] if isinstance(value, str) else value


def plainly_made(value):
    """A good value of its own, made of Python's own types, the keys of its dicts ascending.

    What is passed may be made of types derived from these; what is returned may not.
    """
    if isinstance(value, tuple):
        return tuple([plainly_made(member) for member in value])
    if isinstance(value, dict):
        return {plainly_made(key): plainly_made(value[key]) for key in sorted(value)}
    if isinstance(value, str):
        return value[:]
    return value if value is None or isinstance(value, bool) else int(value)
