"""The sheet of the pipe: the lines of what each of its places does in a beat.

The lines are told by names in dicts: `kept` has those of the fields ahead of the beat, `ports` those of the
inputs, and what a stage finds is handed on to the later ones.
"""

from truebeat.core.drawing import Drawing, both, draw, draw_deed, draw_fields, draw_keepers, draw_ports, draw_reads
from truebeat.core.drawing import draw_word_of, either, feed_keepers, number_bits, only, pick, sheet_of, told, turned
from truebeat.core.fields import register_names
from truebeat.parts.long import LEFT_BITS, put_round
from truebeat.plain.deeds import LOAD, STORE
from truebeat.plain.machine import BELL_PLACE


def draw_write(drawing, shape, kept):
    """The lines of all registers, that of register 0 too, as write leaves them."""
    rows = [told(drawing, shape.width, 0)]
    for number, name in enumerate(register_names(shape), 1):
        hit = draw(drawing, "same", kept["w_to"], told(drawing, number_bits(shape), number))
        rows.append(pick(drawing, hit, kept["w_x"], kept[name]))
    return rows


def draw_memory(drawing, shape, kept, ports):
    """The lines of what comes to be written, and of whether the beat waits."""
    loads = draw(drawing, "same", kept["m_kind"], told(drawing, 2, LOAD))
    stores = draw(drawing, "same", kept["m_kind"], told(drawing, 2, STORE))
    gives = both(drawing, draw(drawing, "any", kept["m_to"]), turned(drawing, stores))
    word = pick(drawing, loads, ports["data"], kept["m_x"])
    return {
        "w_to": only(drawing, gives, number_bits(shape), kept["m_to"]),
        "w_x": only(drawing, gives, shape.width, word),
        "waits": both(drawing, either(drawing, loads, stores), turned(drawing, ports["ready"])),
    }


def draw_long(drawing, shape, kept, found, runs):
    """The lines of the long part behind the beat; `u_on` tells whether the step stays in work."""
    wide, times = shape.width, found["times"]
    divides = both(drawing, found["divides"], draw(drawing, "any", kept["x_two"]))
    works = both(drawing, runs, either(drawing, times, divides))
    begins = both(drawing, works, turned(drawing, kept["u_on"]))
    rounds = both(drawing, works, kept["u_on"], draw(drawing, "any", kept["u_left"]))
    stays = either(drawing, begins, rounds)
    held = pick(drawing, times, kept["x_one"], kept["x_two"])
    ahead = (kept["u_left"], kept["u_one"], kept["u_two"])
    left, one, two = put_round(drawing.drawn, wide, times, held, ahead)
    first = pick(drawing, times, kept["x_two"], kept["x_one"])
    left = pick(drawing, begins, told(drawing, LEFT_BITS, wide), left)
    return {
        "u_on": stays, "u_left": only(drawing, stays, LEFT_BITS, left), "u_one": only(drawing, rounds, wide, one),
        "u_two": only(drawing, stays, wide, pick(drawing, begins, first, two)),
    }


def draw_done(drawing, kept, ports, found, leaves):
    """The lines of how a step leaves work: whether it ends, is behind a bell or led elsewhere than was guessed."""
    stops = both(drawing, leaves, found["stops"])
    goes = both(drawing, leaves, turned(drawing, stops))
    rang = both(drawing, goes, ports["bell"], found["allows"])
    right = draw(drawing, "same", found["further"], kept["x_next"])
    missed = both(drawing, goes, turned(drawing, rang), turned(drawing, right))
    return {
        "leaves": leaves, "stops": stops, "goes": goes, "rang": rang, "missed": missed,
        "struck": either(drawing, stops, rang, missed), "load": both(drawing, leaves, found["load"]),
        "store": both(drawing, leaves, found["store"]), "gives": both(drawing, leaves, found["gives"]),
    }


def draw_asks(drawing, shape, kept, found, done):
    """The lines of what memory gets from work."""
    wide = shape.width
    asks = either(drawing, done["load"], done["store"])
    named = either(drawing, done["load"], done["gives"])
    return {
        "m_kind": draw(drawing, "join", done["load"], done["store"]),
        "m_to": only(drawing, named, number_bits(shape), found["a"]),
        "m_x": pick(drawing, asks, found["place"], only(drawing, done["gives"], wide, found["result"])),
        "m_y": only(drawing, done["store"], wide, kept["x_two"]),
    }


def draw_value(drawing, number, rows, written, found, done):
    """The line of the nearest value of the register with a number."""
    value = draw_word_of(drawing, number, rows)
    value = pick(drawing, draw(drawing, "same", number, written["w_to"]), written["w_x"], value)
    near = both(drawing, done["gives"], draw(drawing, "same", number, found["a"]))
    return pick(drawing, near, found["result"], value)


def draw_coming(drawing, kept, numbers, found, done, flags):
    """The line of whether the step in decode comes to work."""
    lives, stays = flags
    hits = [draw(drawing, "same", number, found["a"]) for number in numbers]
    held = both(drawing, done["load"], draw(drawing, "any", found["a"]), either(drawing, *hits))
    return both(drawing, lives, kept["d_on"], turned(drawing, either(drawing, stays, done["struck"], held)))


def draw_work(drawing, kept, values, comes, stays):
    """The lines of the fields of work behind the beat."""
    fresh = {"x_on": either(drawing, stays, comes)}
    coming = {"x_pc": kept["d_pc"], "x_word": kept["d_word"], "x_next": kept["d_next"], "x_one": values[0],
              "x_two": values[1]}
    for name in coming:
        width = drawing.drawn[kept[name]][2]
        fresh[name] = pick(drawing, stays, kept[name], only(drawing, comes, width, coming[name]))
    return fresh


def draw_decode(drawing, kept, ports, done, flags):
    """The lines of the fields of decode behind the beat, and of whether a step is fetched."""
    lives, comes = flags
    free = both(drawing, lives, turned(drawing, done["struck"]))
    fetches = both(drawing, free, either(drawing, turned(drawing, kept["d_on"]), comes))
    stays = both(drawing, free, turned(drawing, fetches))
    fresh = {"d_on": free}
    for name, line in (("d_pc", kept["pc"]), ("d_word", ports["word"]), ("d_next", ports["guess"])):
        width = drawing.drawn[kept[name]][2]
        fresh[name] = pick(drawing, fetches, line, only(drawing, stays, width, kept[name]))
    return fresh, fetches


def draw_course(drawing, shape, kept, ports, found, done, fetches):
    """The lines of what is fetched next, of bells, and of the end."""
    place = pick(drawing, fetches, ports["guess"], kept["pc"])
    place = pick(drawing, done["missed"], found["further"], place)
    place = pick(drawing, done["rang"], told(drawing, shape.width, BELL_PLACE), place)
    allowed = only(drawing, turned(drawing, done["rang"]), 1, found["allows"])
    return {
        "pc": pick(drawing, done["stops"], kept["x_pc"], place),
        "saved": pick(drawing, done["rang"], found["further"], kept["saved"]),
        "allowed": pick(drawing, done["goes"], allowed, kept["allowed"]),
        "ended": pick(drawing, done["leaves"], found["code"], kept["ended"]),
    }


def draw_stages(drawing, shape, kept, ports):
    """The lines of all fields behind a beat that neither waits nor is a reset, and what else was found."""
    lives = turned(drawing, draw(drawing, "any", kept["ended"]))
    runs = both(drawing, lives, kept["x_on"])
    rows = draw_write(drawing, shape, kept)
    written = draw_memory(drawing, shape, kept, ports)
    found = draw_fields(drawing, shape, kept["x_word"])
    longs = draw_long(drawing, shape, kept, found, runs)
    stays = longs["u_on"]
    special = pick(drawing, found["part"], kept["u_two"], kept["u_one"])
    values, places = (kept["x_one"], kept["x_two"]), (kept["x_pc"], kept["saved"], kept["allowed"])
    draw_deed(drawing, shape, found, values, places, special)
    done = draw_done(drawing, kept, ports, found, both(drawing, runs, turned(drawing, stays)))
    numbers = draw_reads(drawing, shape, draw_fields(drawing, shape, kept["d_word"]))
    comes = draw_coming(drawing, kept, numbers, found, done, (lives, stays))
    coming = [draw_value(drawing, number, rows, written, found, done) for number in numbers]
    decoded, fetches = draw_decode(drawing, kept, ports, done, (lives, comes))
    fresh = {
        **longs, **decoded, **draw_work(drawing, kept, coming, comes, stays),
        **draw_asks(drawing, shape, kept, found, done), "w_to": written["w_to"], "w_x": written["w_x"],
        **draw_course(drawing, shape, kept, ports, found, done, fetches),
        **{name: row for name, row in zip(register_names(shape), rows[1:])},
    }
    return fresh, found, done, written["waits"]


def draw_core(shape, widths):
    """The sheet of a core, by the widths of its inputs and of its fields."""
    drawing = Drawing()
    ports = draw_ports(drawing, widths[0])
    kept = draw_keepers(drawing, widths[1])
    fresh, found, done, waits = draw_stages(drawing, shape, kept, ports)
    lives = turned(drawing, ports["reset"])
    for name in widths[1]:
        behind = pick(drawing, waits, kept[name], fresh[name])
        fresh[name] = only(drawing, lives, widths[1][name], behind)
    feed_keepers(drawing, kept, fresh)
    acts = both(drawing, lives, done["leaves"], turned(drawing, waits))
    puts = both(drawing, acts, found["put"])
    no_ask = draw(drawing, "all", kept["m_kind"])
    return sheet_of(drawing, {
        "fetch": kept["pc"], "ask": pick(drawing, no_ask, told(drawing, 2, 0), kept["m_kind"]), "place": kept["m_x"],
        "give": kept["m_y"], "done": acts, "done_pc": only(drawing, acts, shape.width, kept["x_pc"]), "put": puts,
        "put_word": only(drawing, puts, shape.width, kept["x_one"]), "rang": both(drawing, acts, done["rang"]),
        "ended": fresh["ended"],
    })
