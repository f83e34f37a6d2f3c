"""Sheets for the tests: some of every kind of line, and what the document says of their words."""

COUNT = ((("keep", "n", 4, 0, 3), ("in", "up", 1), ("wide", 1, 4), ("add", 0, 2)), (("now", 0), ("next", 3)))
SAME_WIDTH = ("and", "or", "xor", "add", "less_by", "times", "part", "rest")
TESTS = ("same", "below", "under")


def every_kind(wide, key):
    """A sheet with every kind of line, for words and keys of so many bits; each line is put out that fits."""
    lines = [("in", "x", wide), ("keep", "y", wide, None, 0), ("in", "k", key), ("in", "b", 1),
             ("told", wide, (1 << wide) * 2 // 3), ("keep", "z", wide, (1 << wide) - 1, 1)]
    lines += [("cut", 0, wide // 2, wide - wide // 2), ("cut", 1, 0, 1), ("join", 0), ("join", 3, 2)]
    lines += [("wide", 2, key), ("wide", 3, min(32, wide + 2)), ("long", 0, min(32, wide + 3)), ("long", 1, wide)]
    lines += [("not", 1)] + [(word, 0, 1) for word in SAME_WIDTH[:5]] + [(word, 1, 5) for word in TESTS]
    lines += [("any", 0), ("all", 1), ("pick", 3, 0, 1), ("left", 0, 2), ("right", 1, 2), ("left", 0, 1)]
    lines += [("choose", 2, (0,)), ("choose", 2, (0, 1)), ("choose", 2, (0, 1, 5)), ("choose", 3, (0, 1, 5, 4)),
              ("choose", 2, (1, 0, 5, 4, 0)), ("choose", 2, (0, 0, 1, 1, 1, 0, 1, 5, 4)), ("same", 0, 0)]
    lines[1] = ("keep", "y", wide, None, len(lines) - 2)
    widths = plain_widths(lines)
    outputs, bits = [], 0
    for index, width in enumerate(widths):
        if bits + width <= 400:
            outputs.append((f"o_{index}", index))
            bits += width
    return tuple(lines), tuple(outputs)


def arithmetic(wide, words):
    """A sheet with the lines of these words for two inputs."""
    lines = [("in", "x", wide), ("in", "y", wide)] + [(word, 0, 1) for word in words]
    return tuple(lines), tuple((f"o_{index}", index + 2) for index in range(len(words)))


def plain_widths(lines):
    """The widths of the lines of a sheet, by the table of the document."""
    widths = []
    for line in lines:
        kind = line[0]
        if kind in ("in", "keep", "wide", "long"):
            widths.append(line[2])
        elif kind == "told":
            widths.append(line[1])
        elif kind == "cut":
            widths.append(line[3])
        elif kind == "join":
            widths.append(sum(widths[at] for at in line[1:]))
        elif kind in (*TESTS, "any", "all"):
            widths.append(1)
        elif kind == "pick":
            widths.append(widths[line[2]])
        elif kind == "choose":
            widths.append(widths[line[2][0]])
        else:
            widths.append(widths[line[1]])
    return widths


def plain_weight(lines):
    """The weight, by the table of the document."""
    widths, total, seen = plain_widths(lines), 0, []
    for line, n in zip(lines, widths):
        kind = line[0]
        if kind in ("in", "not", "and", "or", "xor", "pick", "keep"):
            total += n
        elif kind in ("told", "wide", "long"):
            total += 2
        elif kind in ("add", "less_by"):
            total += 3 * n
        elif kind in TESTS:
            total += 4 * widths[line[1]]
        elif kind in ("any", "all"):
            total += widths[line[1]]
        elif kind == "choose":
            total += 2 * n * len(line[2]) + widths[line[1]]
        elif kind in ("left", "right"):
            total += (n + 1) * widths[line[2]]
        elif kind == "times":
            total += 2 * n * n
        elif kind in ("part", "rest") and line[1:] not in seen:
            seen.append(line[1:])
            total += 5 * n * n + 5 * n
    return total


def number(bits):
    return sum(bit << at for at, bit in enumerate(bits))


def split(width, word):
    return [word >> at & 1 for at in range(width)]


def below_zero(width, word):
    return word - (1 << width) if word >> (width - 1) else word


def plain_words(lines, state, given):
    """The words of all lines at a beat, by the table of the document."""
    widths, words = plain_widths(lines), []
    for line, n in zip(lines, widths):
        words.append(plain_word(line, n, widths, words, {**state, **given}))
    return words


def plain_word(line, n, widths, words, held):
    kind, size = line[0], 1 << n
    if kind in ("in", "keep"):
        return held[line[1]]
    if kind == "told":
        return line[2]
    if kind == "cut":
        return number(split(widths[line[1]], words[line[1]])[line[2]:line[2] + n])
    if kind == "join":
        return number([bit for at in line[1:] for bit in split(widths[at], words[at])])
    if kind == "choose":
        return words[line[2][min(words[line[1]], len(line[2]) - 1)]]
    if kind == "pick":
        return words[line[2]] if words[line[1]] else words[line[3]]
    m, i = widths[line[1]], words[line[1]]
    if kind == "wide":
        return i
    if kind == "long":
        return below_zero(m, i) % size
    if kind == "not":
        return size - 1 - i
    if kind in ("any", "all"):
        return int(1 in split(m, i)) if kind == "any" else int(0 not in split(m, i))
    j = words[line[2]]
    if kind in ("left", "right"):
        places = min(j, 99)
        return (i << places) % size if kind == "left" else i >> places
    whole = {
        "and": i & j, "or": i | j, "xor": i ^ j, "add": i + j, "less_by": i - j, "same": int(i == j),
        "below": int(i < j), "under": int(below_zero(m, i) < below_zero(m, j)), "times": i * j,
        "part": i // j if j else size - 1, "rest": i % j if j else i,
    }
    return whole[kind] % size
