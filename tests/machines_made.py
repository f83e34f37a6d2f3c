"""Machines by the words of the document, for the tests: the plain machine, the one-beat machine, and the pipe."""

from truebeat.plain.shapes import Shape

SHAPES = (Shape(4, 2), Shape(4, 4), Shape(4, 8), Shape(5, 4), Shape(8, 2), Shape(9, 8), Shape(16, 4), Shape(16, 8))
ENDS = {0: None, 1: ("end",), 2: ("fault", "word"), 3: ("fault", "divide")}


def step_word(op, a=0, b=0, c=0):
    return op << 12 | a << 9 | b << 6 | c % 64


def parts_of(word):
    return word >> 12, word >> 9 & 7, word >> 6 & 7, word & 63


def signed(bits, word):
    return word - (1 << bits) if word >> bits - 1 & 1 else word


def at(program, place):
    return program[place] if place < len(program) else 65535


def ahead_of_all(shape):
    return {"pc": 0, "held": [0] * shape.registers, "memory": {}, "saved": 0, "allowed": 0, "ended": 0, "outputs": []}


def store(memory, place, word):
    memory = dict(memory)
    memory.pop(place, None)
    if word:
        memory[place] = word
    return memory


def calculated(width, op, one, two, word):
    """What register a becomes for the ops 0 to 9, before it is cut."""
    n, k = signed(6, word & 63), signed(9, word & 511)
    if op == 0:
        return one + two
    if op == 1:
        return one - two
    if op == 2:
        return one & two
    if op == 3:
        return one | two
    if op == 4:
        return one ^ two
    if op == 5:
        return int(signed(width, one) < signed(width, two))
    if op == 6:
        return one * 2 ** (two % 16)
    if op == 7:
        return one // 2 ** (two % 16)
    return one + n if op == 8 else k


def plain_step(shape, program, ahead, bell=0):
    """The state of the plain machine behind one step, and whether the bell was taken."""
    width, fit, many = shape.width, 1 << shape.width, shape.registers
    word = at(program, ahead["pc"])
    op, a, b, c = parts_of(word)
    m = {**ahead, "held": list(ahead["held"]), "outputs": list(ahead["outputs"])}
    A, B, C = m["held"][a % many], m["held"][b % many], m["held"][(c % 8) % many]
    n = signed(6, c)
    following, given = (m["pc"] + 1) % fit, None
    if op <= 9:
        given = calculated(width, op, B, C, word)
    elif op == 10:
        given = m["memory"].get((B + n) % fit, 0)
    elif op == 11:
        m["memory"] = store(m["memory"], (B + n) % fit, A)
    elif op == 12 and A == B or op == 13 and signed(width, A) < signed(width, B):
        following = (m["pc"] + n) % fit
    elif op == 14:
        following, given = (B + n) % fit, m["pc"] + 1
    elif op == 15 and c == 0:
        return {**ahead, "ended": 1}, False
    elif op == 15 and c == 1:
        m["outputs"].append(A)
    elif op == 15 and c == 2:
        following, m["allowed"] = m["saved"], 1
    elif op == 15 and c == 3:
        m["allowed"] = A % 2
    elif op == 15 and c == 4:
        given = A * B
    elif op == 15 and c in (5, 6):
        if B == 0:
            return {**ahead, "ended": 3}, False
        given = divmod(A, B)[c - 5]
    elif op == 15:
        return {**ahead, "ended": 2}, False
    if given is not None and a % many:
        m["held"][a % many] = given % fit
    m["pc"] = following
    if bell and m["allowed"]:
        return {**m, "saved": following, "pc": 1, "allowed": 0}, True
    return m, False


def register_names(shape):
    return [f"r{number}" for number in range(1, shape.registers)]


def single_fields(shape):
    w = shape.width
    return {"pc": w, "saved": w, "allowed": 1, "ended": 2, **{name: w for name in register_names(shape)}}


def pipe_fields(shape):
    w, b = shape.width, {2: 1, 4: 2, 8: 3}[shape.registers]
    return {
        **single_fields(shape), "d_on": 1, "d_pc": w, "d_word": 16, "d_next": w, "x_on": 1, "x_pc": w, "x_word": 16,
        "x_one": w, "x_two": w, "x_next": w, "u_on": 1, "u_left": 5, "u_one": w, "u_two": w, "m_kind": 2, "m_to": b,
        "m_x": w, "m_y": w, "w_to": b, "w_x": w}


def read_numbers(shape, word):
    op, a, b, c = parts_of(word)
    table = {8: (b,), 10: (b,), 14: (b,), 11: (b, a), 12: (a, b), 13: (a, b), 9: ()}
    if op <= 7:
        numbers = (b, c % 8)
    elif op in table:
        numbers = table[op]
    else:
        numbers = (a,) if c in (1, 3) else (a, b) if c in (4, 5, 6) else ()
    return tuple(number % shape.registers for number in numbers)


def is_long(word, two):
    op, _, _, c = parts_of(word)
    return op == 15 and (c == 4 or (c in (5, 6) and two != 0))


def done_alone(shape, s):
    """What the step in work does on the plain machine, at its place, with its two values in the registers it reads.

    The step is done by a machine of eight registers, of which 1 and 2 hold the values and 3 gets what it gives.
    """
    op, _, _, n = parts_of(s["x_word"])
    c, values = n, [s["x_one"], s["x_two"]]
    if op <= 7:
        word = step_word(op, 3, 1, 2)
    elif op in (8, 10, 14):
        word = step_word(op, 3, 1, n)
    elif op == 9:
        word = step_word(9, 3) | s["x_word"] & 511
    elif op == 11:
        word = step_word(11, 2, 1, n)
    elif op in (12, 13):
        word = step_word(op, 1, 2, n)
    else:
        word = step_word(15, 1, 2, c)
    m = {"pc": s["x_pc"], "held": [0, *values, 0, 0, 0, 0, 0], "memory": {}, "saved": s["saved"],
         "allowed": s["allowed"], "ended": 0, "outputs": []}
    program = (0,) * s["x_pc"] + (word,)
    behind, _ = plain_step(Shape(shape.width, 8), program, m)
    given = behind["held"][3] if op <= 9 or op == 14 else None
    if is_long(s["x_word"], s["x_two"]):
        given = s["u_two"] if c == 5 else s["u_one"]
    return behind, given, (s["x_one"] + signed(6, n)) % (1 << shape.width)


def pipe_step(shape, s, word, choice, reset=0):
    """The pipe state behind a beat and the wires, by the words of [13.3]."""
    guess, ready, data, bell = choice
    w, fit, many = shape.width, 1 << shape.width, shape.registers
    wires = dict.fromkeys(("done", "done_pc", "ended", "put", "put_word", "rang"), 0)
    if reset:
        return dict.fromkeys(pipe_fields(shape), 0), wires
    if s["m_kind"] in (1, 2) and not ready:
        return dict(s), {**wires, "ended": s["ended"]}
    n = dict(s)
    if s["w_to"]:
        n[f"r{s['w_to']}"] = s["w_x"]
    n["w_to"], n["w_x"] = s["m_to"], data if s["m_kind"] == 1 else s["m_x"]
    if s["m_kind"] == 2 or s["m_to"] == 0:
        n["w_to"] = n["w_x"] = 0
    for name in ("m_kind", "m_to", "m_x", "m_y"):
        n[name] = 0
    for name in n:
        if name[:2] in ("d_", "x_", "u_"):
            n[name] = 0
    if s["ended"]:
        return n, {**wires, "ended": s["ended"]}
    op, a, _, c = parts_of(s["x_word"])
    stays = struck = False
    if s["x_on"] and is_long(s["x_word"], s["x_two"]) and not s["u_on"]:
        stays = True
        n.update(u_on=1, u_left=w, u_one=0, u_two=s["x_two"] if c == 4 else s["x_one"])
    elif s["x_on"] and is_long(s["x_word"], s["x_two"]) and s["u_left"] > 0:
        stays = True
        t = s["u_two"] // 2 ** (w - 1)
        if c == 4:
            one, two = 2 * s["u_one"] + (s["x_one"] if t else 0), 2 * s["u_two"]
        else:
            v = 2 * s["u_one"] + t
            one, two = (v - s["x_two"], 2 * s["u_two"] + 1) if v >= s["x_two"] else (v, 2 * s["u_two"])
        n.update(u_on=1, u_left=s["u_left"] - 1, u_one=one % fit, u_two=two % fit)
    if stays:
        n.update({name: s[name] for name in s if name.startswith("x_")})
    nearest = {}
    load_to = 0
    if s["x_on"] and not stays:
        m, given, address = done_alone(shape, s)
        wires.update(done=1, done_pc=s["x_pc"])
        if m["outputs"]:
            wires.update(put=1, put_word=m["outputs"][0])
        if op == 10:
            load_to = a % many
            n.update(m_kind=1, m_to=load_to, m_x=address)
        elif op == 11:
            n.update(m_kind=2, m_x=address, m_y=s["x_two"])
        elif given is not None and a % many and not m["ended"]:
            n.update(m_to=a % many, m_x=given)
            nearest[a % many] = given
        if m["ended"]:
            struck = True
            n.update(ended=m["ended"], pc=s["x_pc"])
        else:
            n["allowed"] = m["allowed"]
            if bell and m["allowed"]:
                struck = True
                wires["rang"] = 1
                n.update(saved=m["pc"], pc=1, allowed=0)
            elif m["pc"] != s["x_next"]:
                struck = True
                n["pc"] = m["pc"]
    numbers = read_numbers(shape, s["d_word"])
    held = any(number != 0 and number == load_to for number in numbers)
    comes = bool(s["d_on"]) and not stays and not struck and not held
    if comes:
        values = []
        for number in numbers:
            options = [nearest.get(number), n["w_x"] if n["w_to"] == number else None]
            found = [value for value in options if value is not None]
            values.append(0 if number == 0 else found[0] if found else n[f"r{number}"])
        values += [0, 0]
        n.update(x_on=1, x_pc=s["d_pc"], x_word=s["d_word"], x_next=s["d_next"], x_one=values[0], x_two=values[1])
    if not struck and (not s["d_on"] or comes):
        n.update(d_on=1, d_pc=s["pc"], d_word=word, d_next=guess, pc=guess)
    elif not struck and s["d_on"]:
        n.update({name: s[name] for name in s if name.startswith("d_")})
    return n, {**wires, "ended": n["ended"]}


def some_step(source):
    """A step word, of all kinds, those with few bits in their fields more often."""
    op = source.choice((*range(16), 9, 10, 11, 12, 15, 15, 15))
    c = source.choice((0, 1, 2, 3, 4, 5, 6, 7, 8, 60, 62, 63)) if op == 15 else source.randrange(64)
    if op in (10, 11, 12, 13, 14) and source.randrange(2):
        c = source.choice((0, 1, 2, 3, 62, 63))
    return step_word(op, source.randrange(8), source.randrange(8), c)


def some_program(source, many):
    """A program that does not end too soon."""
    words = [some_step(source) for _ in range(many)]
    return tuple(word if parts_of(word)[0] < 15 or parts_of(word)[3] in (1, 2, 3, 4) or source.randrange(6) == 0
                 else step_word(9, word >> 9 & 7) | word & 511 for word in words)


def some_memory(source, shape, many=4):
    return {source.randrange(1 << min(shape.width, 5)): source.randrange(1, 1 << shape.width) for _ in range(many)}


def some_fields(source, widths):
    return {name: source.choice((0, (1 << bits) - 1, source.randrange(1 << bits), source.randrange(1 << bits)))
            for name, bits in widths.items()}


def some_pipe(source, shape):
    """Any pipe state, kept or not, in which something happens."""
    s = some_fields(source, pipe_fields(shape))
    if source.randrange(6):
        s["ended"] = 0
    for place in ("x_word", "d_word"):
        if source.randrange(4):
            s[place] = some_step(source)
    if source.randrange(3) == 0:
        s["x_two"] = s["x_one"]
    if source.randrange(3) == 0:
        s["u_left"] = source.choice((0, 1))
    return s


def some_choice(source, shape):
    top = 1 << shape.width
    return source.randrange(top), source.randrange(2), source.randrange(top), source.randrange(2)
