"""What cells have at all fillings of some names at once.

The filling with the number p has for the name with the index `at` the bit `many - 1 - at` of p, so that
fillings ascend as the tuples of their bits do. What a cell has at all of them is an integer, a *function*,
whose bit p is the bit that it has at the filling p.
"""

from truebeat.nets.walk import values_found


def pattern(many, at):
    """What the name with the index `at` of so many names has at all fillings."""
    half = 1 << (many - 1 - at)
    row = ((1 << half) - 1) << half
    size = 2 * half
    while size < 1 << many:
        row |= row << size
        size *= 2
    return row


def patterns(names):
    """The dict from the names to what they have at all fillings."""
    return {name: pattern(len(names), at) for at, name in enumerate(names)}


def functions_of(names, cells):
    """What the cells of a still net have at all fillings of the names."""
    return values_found(cells, 1 << len(names), {}, patterns(names))


def bits_of_number(many, number):
    """The tuple of so many bits, the top one first."""
    return tuple([number >> (many - 1 - at) & 1 for at in range(many)])


def number_of_bits(bits):
    """The number with these bits, the top one first."""
    number = 0
    for bit in bits:
        number = 2 * number + bit
    return int(number)


def filling_of(names, number):
    """The filling with this number."""
    return {name: bit for name, bit in zip(names, bits_of_number(len(names), number))}


def lowest_one(function):
    """The number of the first filling at which the function is 1, if there is one."""
    return (function & -function).bit_length() - 1


def numbers_at_all(functions, fillings):
    """For each filling the number whose bits the functions have there, that of the first one on top."""
    if len(functions) == 0:
        return [0] * fillings
    texts = [f"{function:b}".zfill(fillings)[::-1] for function in functions]
    return [int("".join(signs), 2) for signs in zip(*texts)]
