"""The plain machine, which does one step after the other."""

from truebeat.base.checks import is_ascending, is_bit, is_integer, is_tuple_of, plainly_made
from truebeat.base.words import check_number
from truebeat.errors import InvalidChoice, InvalidOperation, InvalidState, Refused
from truebeat.plain.deeds import ENDS, LOAD, STORE, deed_of, put_word, values_read
from truebeat.plain.shapes import check_memory, check_program, check_shape, given_by, is_shape_word, word_at

BELL_PLACE = 1
MOST_STEPS = 3000


def check_state(holds, name):
    """Refuse what is not so of a state."""
    if not holds:
        raise InvalidState(f"this is no {name} of the machine")


def are_registers(shape, value):
    """Whether the value is the words of all registers."""
    if not is_tuple_of(value, shape.registers, shape.registers):
        return False
    return all([is_shape_word(shape, word) for word in value]) and value[0] == 0


def check_bells(bells):
    """Refuse what is no ascending tuple of numbers of steps."""
    if not isinstance(bells, tuple) or not all([is_integer(number) and number > 0 for number in bells]):
        raise InvalidOperation("these are no numbers of steps")
    if not is_ascending(bells):
        raise InvalidOperation("these numbers of steps do not ascend")


def check_run(steps, bells):
    """Refuse a wrong number of steps, then wrong bells."""
    check_number(steps, 0, MOST_STEPS)
    check_bells(bells)


class Going:
    """A state that is changed from step to step."""

    def __init__(self, plain):
        self.at = plain.pc
        self.held = list(plain.registers)
        self.store = plain.memory
        self.home = plain.saved
        self.allows = plain.allowed
        self.over = plain.ended
        self.shown = list(plain.outputs)


class Plain:
    """A state of the plain machine. It never changes."""

    def __init__(self, shape, program, *, pc=0, registers=None, memory=None, saved=0, allowed=False, ended=None,
                 outputs=()):
        check_shape(shape)
        check_program(program)
        check_state(is_shape_word(shape, pc), "place")
        check_state(registers is None or are_registers(shape, registers), "row of registers")
        if memory is not None:
            check_memory(shape.width, memory)
        check_state(is_shape_word(shape, saved), "saved place")
        check_state(isinstance(allowed, bool), "boolean")
        check_state(ended is None or (isinstance(ended, tuple) and ended in ENDS), "end")
        words = isinstance(outputs, tuple) and all([is_shape_word(shape, word) for word in outputs])
        check_state(words, "row of outputs")
        self._shape = shape
        self._program = plainly_made(program)
        self._pc = int(pc)
        self._registers = (0,) * shape.registers if registers is None else plainly_made(registers)
        self._memory = {} if memory is None else plainly_made(memory)
        self._saved = int(saved)
        self._allowed = allowed
        self._ended = plainly_made(ended)
        self._outputs = plainly_made(outputs)

    @property
    def shape(self):
        """The shape."""
        return self._shape

    @property
    def program(self):
        """The program."""
        return self._program

    @property
    def pc(self):
        """The place of the next step."""
        return self._pc

    @property
    def registers(self):
        """The words of all registers."""
        return self._registers

    @property
    def memory(self):
        """The memory."""
        return {place: self._memory[place] for place in sorted(self._memory)}

    @property
    def saved(self):
        """The saved place."""
        return self._saved

    @property
    def allowed(self):
        """Whether bells are allowed."""
        return self._allowed

    @property
    def ended(self):
        """How the machine has ended, or `None`."""
        return self._ended

    @property
    def outputs(self):
        """The words that were put out."""
        return self._outputs

    @property
    def word(self):
        """The step word of the next step."""
        return word_at(self._program, self._pc)

    def __eq__(self, other):
        return isinstance(other, Plain) and all_of(self) == all_of(other)

    def __str__(self):
        return f"machine at {self._pc}, {len(self._outputs)} words put out{end_told(self._ended)}"

    def step(self, bell=0):
        """The state behind one step, and behind the bell if it rings and can be taken."""
        if not is_bit(bell):
            raise InvalidChoice("a bell is a bit")
        if self._ended is not None:
            raise Refused(("ended",))
        going = Going(self)
        go_on(self._shape, self._program, going, bell == 1)
        return plain_behind(self._shape, self._program, going)

    def run(self, steps, bells=()):
        """The state behind so many steps, or behind fewer if it ends."""
        check_run(steps, bells)
        rings = {number: True for number in bells}
        going = Going(self)
        for number in range(1, steps + 1):
            if going.over is not None:
                break
            go_on(self._shape, self._program, going, number in rings)
        return plain_behind(self._shape, self._program, going)

    def trace(self, steps, bells=()):
        """For each step its place, its word, and whether a bell was taken behind it."""
        check_run(steps, bells)
        rings = {number: True for number in bells}
        going = Going(self)
        for number in range(1, steps + 1):
            if going.over is not None:
                return
            place = going.at
            rang = go_on(self._shape, self._program, going, number in rings)
            yield place, word_at(self._program, place), rang


def all_of(plain):
    """All that makes a state what it is."""
    return (plain.shape, plain.program, plain.pc, plain.registers, plain.memory, plain.saved, plain.allowed,
            plain.ended, plain.outputs)


def end_told(ended):
    """What the text of a state tells of its end."""
    return "" if ended is None else f", ended: {ended[-1]}"


def give(shape, going, word, deed):
    """Let the step's word stand where it goes."""
    target = given_by(shape, word)
    result = going.store.get(deed.place, 0) if deed.asks == LOAD else deed.result
    if target > 0 and result is not None:
        going.held[target] = result


def go_on(shape, program, going, rings):
    """Do one step, and take the bell if it rings and can be taken; whether it was taken."""
    word = word_at(program, going.at)
    values = values_read(shape, word, going.held)
    deed = deed_of(shape.width, word, values, going.at, going.home)
    if deed.code > 0:
        going.over = ENDS[deed.code]
        return False
    give(shape, going, word, deed)
    if deed.asks == STORE:
        put_word(going.store, deed.place, values[1])
    if deed.shown is not None:
        going.shown.append(deed.shown)
    if deed.allows is not None:
        going.allows = deed.allows == 1
    going.at = deed.further
    if not rings or not going.allows:
        return False
    going.home, going.at, going.allows = going.at, BELL_PLACE, False
    return True


def with_memory(plain, memory):
    """A state, just made, with this memory, which may have more places than one that is passed."""
    plain._memory = {place: memory[place] for place in sorted(memory)}
    return plain


def plain_behind(shape, program, going):
    """The state to which a changing one has come."""
    made = Plain(shape, program, pc=going.at, registers=tuple(going.held), saved=going.home, allowed=going.allows,
                 ended=going.over, outputs=tuple(going.shown))
    return with_memory(made, going.store)
