"""What the lines of sheets do with words.

Each function of the table WORKS tells the word of a line, by its width and the words of the lines
ahead of it, each a pair (width, word).
"""

from truebeat.base.words import signed


def word_of_told(line, width, ahead):
    return line[2]


def word_of_cut(line, width, ahead):
    return (ahead[line[1]][1] >> line[2]) % (1 << width)


def word_of_join(line, width, ahead):
    word, low = 0, 0
    for at in line[1:]:
        word += ahead[at][1] << low
        low += ahead[at][0]
    return word


def word_of_wide(line, width, ahead):
    return ahead[line[1]][1]


def word_of_long(line, width, ahead):
    wide, word = ahead[line[1]]
    return signed(wide, word) % (1 << width)


def word_of_not(line, width, ahead):
    return (1 << width) - 1 - ahead[line[1]][1]


def word_of_and(line, width, ahead):
    return ahead[line[1]][1] & ahead[line[2]][1]


def word_of_or(line, width, ahead):
    return ahead[line[1]][1] | ahead[line[2]][1]


def word_of_xor(line, width, ahead):
    return ahead[line[1]][1] ^ ahead[line[2]][1]


def word_of_add(line, width, ahead):
    return (ahead[line[1]][1] + ahead[line[2]][1]) % (1 << width)


def word_of_less_by(line, width, ahead):
    return (ahead[line[1]][1] - ahead[line[2]][1]) % (1 << width)


def word_of_same(line, width, ahead):
    return 1 if ahead[line[1]][1] == ahead[line[2]][1] else 0


def word_of_below(line, width, ahead):
    return 1 if ahead[line[1]][1] < ahead[line[2]][1] else 0


def word_of_under(line, width, ahead):
    wide, one = ahead[line[1]]
    return 1 if signed(wide, one) < signed(wide, ahead[line[2]][1]) else 0


def word_of_any(line, width, ahead):
    return 1 if ahead[line[1]][1] > 0 else 0


def word_of_all(line, width, ahead):
    wide, word = ahead[line[1]]
    return 1 if word == (1 << wide) - 1 else 0


def word_of_pick(line, width, ahead):
    return ahead[line[2]][1] if ahead[line[1]][1] == 1 else ahead[line[3]][1]


def word_of_choose(line, width, ahead):
    at = min(ahead[line[1]][1], len(line[2]) - 1)
    return ahead[line[2][at]][1]


def word_of_left(line, width, ahead):
    # Beyond the width nothing is left, and a shift by a great word would take all memory there is.
    return (ahead[line[1]][1] << min(ahead[line[2]][1], width)) % (1 << width)


def word_of_right(line, width, ahead):
    return ahead[line[1]][1] >> ahead[line[2]][1]


def word_of_times(line, width, ahead):
    return ahead[line[1]][1] * ahead[line[2]][1] % (1 << width)


def word_of_part(line, width, ahead):
    other = ahead[line[2]][1]
    return (1 << width) - 1 if other == 0 else ahead[line[1]][1] // other


def word_of_rest(line, width, ahead):
    other = ahead[line[2]][1]
    return ahead[line[1]][1] if other == 0 else ahead[line[1]][1] % other


WORKS = {
    "told": word_of_told, "cut": word_of_cut, "join": word_of_join, "wide": word_of_wide, "long": word_of_long,
    "not": word_of_not, "and": word_of_and, "or": word_of_or, "xor": word_of_xor,
    "add": word_of_add, "less_by": word_of_less_by,
    "same": word_of_same, "below": word_of_below, "under": word_of_under, "any": word_of_any, "all": word_of_all,
    "pick": word_of_pick, "choose": word_of_choose, "left": word_of_left, "right": word_of_right,
    "times": word_of_times, "part": word_of_part, "rest": word_of_rest,
}


def words_found(lines, widths, state, inputs):
    """The words of all lines at a beat."""
    ahead = []
    for line, width in zip(lines, widths):
        if line[0] == "in":
            word = inputs[line[1]]
        elif line[0] == "keep":
            word = state[line[1]]
        else:
            work = WORKS[line[0]]
            word = work(line, width, ahead)
        ahead.append((width, word))
    return [word for width, word in ahead]
