"""The one-beat machine, which does one whole step of the plain machine at each beat."""

from truebeat.base.checks import plainly_made
from truebeat.core.drawing import Drawing, both, draw, draw_deed, draw_fields, draw_keepers, draw_ports, draw_reads
from truebeat.core.drawing import draw_word_of, either, feed_keepers, number_bits, only, pick, sheet_of, told, turned
from truebeat.core.fields import WORD_BITS, check_bit_choice, check_fields, held_in, register_names
from truebeat.core.fields import single_widths
from truebeat.errors import InvalidInputs, InvalidState
from truebeat.nets.net import check_net
from truebeat.plain.deeds import ENDS, LOAD, STORE, deed_of, values_read
from truebeat.plain.machine import BELL_PLACE, Plain
from truebeat.plain.shapes import check_memory, check_program, check_shape, check_step_word, given_by, is_shape_word
from truebeat.sheets.lay import bit_fault, check_bit_names, lay

WIRES = ("ask", "done", "ended", "fetch", "give", "place", "put", "put_word", "rang")


def check_beat(shape, state, word, data):
    """Refuse, in this sequence, a wrong state, step word and data."""
    check_fields(single_widths(shape), state)
    check_step_word(word)
    if not is_shape_word(shape, data):
        raise InvalidInputs("this is no word of the memory")


def behind_step(shape, state, word, deed, data):
    """The state behind a step that is no end."""
    behind = {name: state[name] for name in state}
    target = given_by(shape, word)
    if target > 0:
        behind[f"r{target}"] = data if deed.asks == LOAD else deed.result
    behind["pc"] = deed.further
    if deed.allows is not None:
        behind["allowed"] = deed.allows
    return behind


def take_bell(behind):
    """Let the bell be taken in a state that may change."""
    behind["saved"], behind["pc"], behind["allowed"] = behind["pc"], BELL_PLACE, 0


def put_wires(wires, values, deed):
    """Put down what a step asks, puts out and does."""
    wires["done"] = 1
    wires["ended"] = deed.code
    wires["ask"] = deed.asks
    wires["place"] = deed.place
    if deed.asks == STORE:
        wires["give"] = values[1]
    if deed.shown is not None:
        wires["put"], wires["put_word"] = 1, deed.shown


def beat_done(shape, state, word, data, bell):
    """The state behind a beat without reset, and the wires."""
    wires = {name: 0 for name in WIRES}
    wires["fetch"], wires["ended"] = state["pc"], state["ended"]
    behind = {name: state[name] for name in state}
    if state["ended"] == 0:
        values = values_read(shape, word, held_in(shape, state))
        deed = deed_of(shape.width, word, values, state["pc"], state["saved"])
        put_wires(wires, values, deed)
        if deed.code > 0:
            behind["ended"] = deed.code
        else:
            behind = behind_step(shape, state, word, deed, data)
            if bell == 1 and behind["allowed"] == 1:
                take_bell(behind)
                wires["rang"] = 1
    return behind, wires


def single_beat(shape, state, word, data, bell, *, reset=0):
    """The state behind a beat, and the wires."""
    check_shape(shape)
    check_beat(shape, state, word, data)
    check_bit_choice(bell)
    check_bit_choice(reset)
    if reset == 1:
        first = {name: 0 for name in single_widths(shape)}
        return first, plainly_made({**{name: 0 for name in WIRES}, "fetch": state["pc"]})
    return plainly_made(beat_done(shape, state, word, data, bell))


def plain_of(shape, state, program, memory):
    """The plain state that a single state means."""
    check_shape(shape)
    check_fields(single_widths(shape), state)
    check_program(program)
    check_memory(shape.width, memory)
    return Plain(shape, program, pc=state["pc"], registers=tuple(held_in(shape, state)), memory=memory,
                 saved=state["saved"], allowed=state["allowed"] == 1, ended=ENDS[state["ended"]])


def single_of(plain):
    """The single state that means a plain state."""
    if not isinstance(plain, Plain):
        raise InvalidState("this is no state of the plain machine")
    names = register_names(plain.shape)
    found = {"pc": plain.pc, "saved": plain.saved, "allowed": 1 if plain.allowed else 0}
    held = {name: word for name, word in zip(names, plain.registers[1:])}
    return plainly_made({**found, **held, "ended": ENDS.index(plain.ended)})


def draw_products(drawing, found, one, two):
    """The line of the product, the quotient or the rest of two lines, as the step asks it."""
    quotient = pick(drawing, found["part"], draw(drawing, "part", one, two), draw(drawing, "rest", one, two))
    return pick(drawing, found["times"], draw(drawing, "times", one, two), quotient)


def draw_registers(drawing, shape, kept, gives, found, value):
    """The lines of the registers behind a step that gives a value, if it does."""
    fresh = {}
    for number, name in enumerate(register_names(shape), 1):
        hit = draw(drawing, "same", found["a"], told(drawing, number_bits(shape), number))
        fresh[name] = pick(drawing, both(drawing, gives, hit), value, kept[name])
    return fresh


def draw_behind(drawing, shape, kept, ports, found, flags):
    """The lines of what the fields of a single state have behind a beat without reset."""
    active, goes, rang = flags
    value = pick(drawing, found["load"], ports["data"], found["result"])
    gives = both(drawing, goes, either(drawing, found["gives"], found["load"]))
    fresh = draw_registers(drawing, shape, kept, gives, found, value)
    place = pick(drawing, rang, told(drawing, shape.width, BELL_PLACE), found["further"])
    fresh["pc"] = pick(drawing, goes, place, kept["pc"])
    fresh["saved"] = pick(drawing, rang, found["further"], kept["saved"])
    allowed = only(drawing, turned(drawing, rang), 1, found["allows"])
    fresh["allowed"] = pick(drawing, goes, allowed, kept["allowed"])
    fresh["ended"] = pick(drawing, active, found["code"], kept["ended"])
    return fresh


def draw_wires(drawing, shape, found, values, active):
    """The lines of the wires that tell what a step asks and puts out."""
    wide = shape.width
    puts, stores = both(drawing, active, found["put"]), both(drawing, active, found["store"])
    asks = either(drawing, both(drawing, active, found["load"]), stores)
    return {
        "ask": only(drawing, active, 2, draw(drawing, "join", found["load"], found["store"])), "done": active,
        "place": only(drawing, asks, wide, found["place"]), "give": only(drawing, stores, wide, values[1]),
        "put": puts, "put_word": only(drawing, puts, wide, values[0]),
    }


def single_sheet(shape):
    """A sheet whose beat is that of the one-beat machine."""
    check_shape(shape)
    drawing = Drawing()
    widths = single_widths(shape)
    ports = draw_ports(drawing, input_widths(shape))
    kept = draw_keepers(drawing, widths)
    found = draw_fields(drawing, shape, ports["word"])
    rows = [told(drawing, shape.width, 0)] + [kept[name] for name in register_names(shape)]
    values = [draw_word_of(drawing, number, rows) for number in draw_reads(drawing, shape, found)]
    special = draw_products(drawing, found, values[0], values[1])
    draw_deed(drawing, shape, found, values, (kept["pc"], kept["saved"], kept["allowed"]), special)
    lives = turned(drawing, ports["reset"])
    active = both(drawing, lives, turned(drawing, draw(drawing, "any", kept["ended"])))
    goes = both(drawing, active, turned(drawing, found["stops"]))
    rang = both(drawing, goes, ports["bell"], found["allows"])
    fresh = draw_behind(drawing, shape, kept, ports, found, (active, goes, rang))
    fresh = {name: only(drawing, lives, widths[name], fresh[name]) for name in fresh}
    feed_keepers(drawing, kept, fresh)
    wires = draw_wires(drawing, shape, found, values, active)
    return sheet_of(drawing, {**wires, "fetch": kept["pc"], "rang": rang, "ended": fresh["ended"]})


def input_widths(shape):
    """The inputs of the one-beat machine, with their bits."""
    return {"word": WORD_BITS, "data": shape.width, "bell": 1, "reset": 1}


def single_ports(shape):
    """The widths of the inputs, of the fields and of the wires of the one-beat machine."""
    words = {name: shape.width for name in ("fetch", "give", "place", "put_word")}
    return input_widths(shape), single_widths(shape), {**{name: 1 for name in WIRES}, **words, "ask": 2, "ended": 2}


def single_net(shape):
    """A net laid from a sheet of the one-beat machine."""
    return lay(single_sheet(shape))


def single_fault(shape, net, state, word, data, bell, *, reset=0):
    """What a net does at one beat otherwise than the one-beat machine, `None` for nothing."""
    check_shape(shape)
    check_net(net)
    right = single_beat(shape, state, word, data, bell, reset=reset)
    ports = single_ports(shape)
    check_bit_names(net, ports)
    inputs = {"word": word, "data": data, "bell": bell, "reset": reset}
    return bit_fault(net, ports, (state, inputs), (right[1], right[0]))
