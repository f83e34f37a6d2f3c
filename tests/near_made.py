"""Near lines by the words of the document, for the tests: lines are dicts with two words in a list."""

from truebeat.near.lines import Near

SETTINGS = ((4, 1), (4, 2), (4, 4), (4, 8), (5, 2), (5, 4), (5, 8), (6, 1), (8, 4), (16, 8))


def open_up(near, memory):
    """The near lines and the memory as a dict that may be changed."""
    lines = [{"on": on, "block": block, "dirty": dirty, "words": [low, high]} for on, block, dirty, low, high in near.lines]
    return {"width": near.width, "sets": near.sets, "lines": lines, "turn": near.turn, "memory": dict(memory)}


def close_up(m):
    """The object, and the memory, of such a dict."""
    lines = tuple((line["on"], line["block"], line["dirty"], *line["words"]) for line in m["lines"])
    return Near(m["width"], m["sets"], lines, m["turn"]), dict(sorted(m["memory"].items()))


def store(memory, place, word):
    memory.pop(place, None)
    if word:
        memory[place] = word


def ways_of(m, block):
    number = block % m["sets"]
    return m["lines"][2 * number], m["lines"][2 * number + 1]


def near_step(m, ask, ready, victim):
    """Let a beat be done by the words of [15.2]; the answer."""
    if m["turn"] is not None:
        word, way, part, block = m["turn"]
        line = ways_of(m, block)[way]
        if ready and word == "back":
            store(m["memory"], 2 * line["block"] + part, line["words"][part])
            m["turn"] = ("back", way, 1, block) if part == 0 else ("fill", way, 0, block)
            line["on"] = line["on"] and part == 0
        elif ready:
            line["words"][part] = m["memory"].get(2 * block + part, 0)
            m["turn"] = ("fill", way, 1, block) if part == 0 else None
            if part == 1:
                line.update(on=True, block=block, dirty=False)
        return None
    if ask is None:
        return None
    block, at = divmod(ask[1], 2)
    lines = ways_of(m, block)
    for line in lines:
        if line["on"] and line["block"] == block:
            if ask[0] == "read":
                return "read", line["words"][at]
            line["words"][at] = ask[2]
            line["dirty"] = True
            return ("write",)
    off = [way for way in (0, 1) if not lines[way]["on"]]
    way = off[0] if off else victim
    if lines[way]["on"] and lines[way]["dirty"]:
        m["turn"] = ("back", way, 0, block)
    else:
        lines[way]["on"] = False
        m["turn"] = ("fill", way, 0, block)
    return None


def words_by_words(m):
    """The words of near lines over a memory [15.4]."""
    memory = dict(m["memory"])
    for way in (0, 1):
        for line in m["lines"][way::2]:
            if line["on"]:
                store(memory, 2 * line["block"], line["words"][0])
                store(memory, 2 * line["block"] + 1, line["words"][1])
    return memory


def is_kept_by_words(m):
    """Whether near lines are kept, sentence by sentence of [15.3]."""
    memory = m["memory"]

    def there(block):
        return [memory.get(2 * block, 0), memory.get(2 * block + 1, 0)]

    for number in range(m["sets"]):
        one, other = m["lines"][2 * number:2 * number + 2]
        if one["on"] and other["on"] and one["block"] == other["block"]:
            return False
    if any(line["on"] and not line["dirty"] and line["words"] != there(line["block"]) for line in m["lines"]):
        return False
    if m["turn"] is None:
        return True
    word, way, part, block = m["turn"]
    lines = ways_of(m, block)
    line = lines[way]
    if any(other["on"] and other["block"] == block for other in lines):
        return False
    if word == "back" and not (line["on"] and line["dirty"]) or word == "fill" and line["on"]:
        return False
    return part == 0 or line["words"][0] == there(line["block"] if word == "back" else block)[0]


def few_places(width, sets):
    """Places that meet in few blocks: of two sets, and not many blocks of each."""
    return [2 * block + part for block in range(min(1 << (width - 1), 5 * sets)) if block % sets < 2 for part in (0, 1)]


def some_near(source, width, sets):
    """Any near lines, kept or not, in a turn or not."""
    blocks = 1 << (width - 1)
    lines = []
    for number in range(sets):
        held = [number + sets * source.randrange(min(4, blocks // sets)) for _ in range(2)]
        lines += [(source.random() < .7, block, source.random() < .4, source.randrange(1 << width), source.randrange(3))
                  for block in held]
    turn = None
    if source.randrange(3) == 0:
        turn = (source.choice(("back", "fill")), source.randrange(2), source.randrange(2), source.randrange(min(blocks, 8)))
    return Near(width, sets, tuple(lines), turn)


def some_words(source, width, sets):
    """A memory with words at some of the places that meet in few blocks."""
    return {place: source.randrange(1, 1 << width) for place in few_places(width, sets) if source.randrange(2)}


def some_ask(source, width, sets):
    place = source.choice(few_places(width, sets))
    return source.choice((("read", place), ("write", place, source.choice((0, source.randrange(1 << width))))))


def some_kept_near(source, width, sets, memory, beats=30):
    """Kept near lines over a memory, and this memory, to which drawn asks lead."""
    m = open_up(Near(width, sets), memory)
    for _ in range(source.randrange(beats)):
        near_step(m, some_ask(source, width, sets), source.randrange(4) > 0, source.randrange(2))
    return close_up(m)
