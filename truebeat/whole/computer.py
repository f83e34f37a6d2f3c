"""The whole computer: a pipe, near lines, and a memory behind them."""

from truebeat.base.checks import is_bit, is_tuple_of, plainly_made
from truebeat.base.words import check_number
from truebeat.core.counts import check_run_of
from truebeat.core.fields import ascending, check_fields, pipe_widths
from truebeat.core.gates import core_net
from truebeat.core.meaning import meant
from truebeat.core.pipe import first_pipe
from truebeat.errors import InvalidChoice, InvalidLines, InvalidOperation, Refused, TooMany
from truebeat.near.lines import Near, are_kept_lines, check_near, near_of, turning_of
from truebeat.near.turns import words_over
from truebeat.plain.machine import MOST_STEPS, Going, Plain, check_bells, go_on
from truebeat.plain.shapes import is_shape_word
from truebeat.whole.running import Running, copied, do_beat, do_reset

MAX_BEATS = 3000
MAX_GATED = 400
MOST_GUIDED = 300


def check_near_for(shape, near, memory):
    """Refuse what is no idle near lines of the width that are kept for the memory."""
    check_near(near)
    if near.width != shape.width or near.turn is not None or not are_kept_lines(near, memory):
        raise InvalidLines("these near lines have another width, a turn, or are not kept")


class Computer:
    """A computer behind some beats. It never changes."""

    def __init__(self, shape, program, memory, near, *, gates=False, waking=None):
        check_run_of(shape, program, memory)
        check_near_for(shape, near, memory)
        if not isinstance(gates, bool):
            raise InvalidOperation("whether there are gates is a boolean")
        if waking is not None:
            check_fields(pipe_widths(shape), waking)
        self._shape = shape
        self._program = plainly_made(program)
        self._gates = gates
        self._near = near
        pipe = first_pipe(shape) if waking is None else plainly_made(waking)
        turning = turning_of(near, plainly_made(memory))
        self._running = Running(shape, self._program, core_net(shape) if gates else None, pipe, turning)
        if waking is not None:
            do_reset(self._running)

    @property
    def shape(self):
        """The shape."""
        return self._shape

    @property
    def program(self):
        """The program."""
        return self._program

    @property
    def gates(self):
        """Whether the pipe is the net of gates."""
        return self._gates

    @property
    def memory(self):
        """The memory behind the near lines, as it is now."""
        return ascending(self._running.turning.store)

    @property
    def near(self):
        """The near lines, as they are now."""
        return self._near

    @property
    def state(self):
        """The pipe state, as it is now."""
        return ascending(self._running.pipe)

    @property
    def beats(self):
        """How many beats there were."""
        return self._running.now

    @property
    def steps(self):
        """How many steps were done."""
        return self._running.done

    @property
    def waits(self):
        """At how many beats the pipe asked and was not answered."""
        return self._running.idle

    @property
    def outputs(self):
        """All words put out."""
        return tuple([event[2] for event in self._running.events if event[0] == "put"])

    @property
    def history(self):
        """All events."""
        return tuple(self._running.events)

    def __eq__(self, other):
        return isinstance(other, Computer) and all_of(self) == all_of(other)

    def __len__(self):
        return len([event for event in self._running.events if event[0] == "step"])

    def __str__(self):
        return f"computer of {self._shape.width} bits, {self._running.done} steps in {self._running.now} beats"

    def words(self):
        """The words of the near lines over the memory."""
        turning = self._running.turning
        return words_over(turning.rows, turning.store)

    def meaning(self):
        """The state of the plain machine that is meant, with all outputs."""
        return meant(self._shape, self._running.pipe, self.words(), self._program, self.outputs)

    def beat(self, choice):
        """The computer one beat further."""
        if not is_computer_choice(self._shape, choice):
            raise InvalidChoice("this is no choice")
        check_room(self, 1)
        return computer_behind(self, (choice,))

    def run(self, choices):
        """The computer behind a tuple of choices."""
        check_choices(self._shape, choices)
        check_room(self, len(choices))
        return computer_behind(self, choices)

    def guided(self, table, choices):
        """The computer behind choices whose guesses are told by a table of places."""
        if not is_guide(self._shape, table):
            raise InvalidOperation("this is no table of places")
        if not isinstance(choices, tuple) or not all([are_three_bits(choice) for choice in choices]):
            raise InvalidChoice("these are no choices")
        check_room(self, len(choices))
        running = copied(self._running)
        for ready, victim, bell in choices:
            place = running.pipe["pc"]
            guess = table.get(place, (place + 1) % (1 << self._shape.width))
            do_beat(running, plainly_made((guess, ready, victim, bell)))
        return computer_of(self, running)


def all_of(computer):
    """All that makes a computer what it is."""
    return (computer.shape, computer.program, computer.state, computer.memory, computer.near, computer.history)


def are_three_bits(value):
    """Whether the value is three bits."""
    return is_tuple_of(value, 3, 3) and all([is_bit(bit) for bit in value])


def is_computer_choice(shape, value):
    """Whether the value is a guess, ready, a victim and a bell."""
    return is_tuple_of(value, 4, 4) and is_shape_word(shape, value[0]) and are_three_bits(value[1:])


def check_choices(shape, choices):
    """Refuse what is no tuple of choices."""
    if not isinstance(choices, tuple) or not all([is_computer_choice(shape, choice) for choice in choices]):
        raise InvalidChoice("these are no choices")


def check_room(computer, beats):
    """Refuse more beats than a computer may have, together with those that it had."""
    most = MAX_GATED if computer.gates else MAX_BEATS
    if computer.beats + beats > most:
        raise TooMany(most)


def is_guide(shape, value):
    """Whether the value is a table from places to what is guessed of steps fetched there."""
    if not isinstance(value, dict) or len(value) > MOST_GUIDED:
        return False
    return all([is_shape_word(shape, place) and is_shape_word(shape, value[place]) for place in value])


def computer_of(computer, running):
    """The computer to which a changing one has come that was a copy of this one."""
    made = Computer(computer.shape, computer.program, {}, Near(computer.shape.width, 1))
    made._gates = computer.gates
    made._near = near_of(computer.near, running.turning)
    made._running = running
    return made


def running_of(computer):
    """A computer once more, to be changed by itself."""
    return copied(computer._running)


def computer_behind(computer, choices):
    """The computer behind good choices."""
    running = running_of(computer)
    for choice in choices:
        do_beat(running, plainly_made(choice))
    return computer_of(computer, running)


def events_of_step(going, place, taken, many):
    """The events of a step of the plain machine, ahead of which so many words were put out."""
    events = [("step", place)]
    if len(going.shown) > many:
        events.append(("put", going.shown[-1]))
    if taken:
        events.append(("bell",))
    if going.over is not None:
        events.append(going.over)
    return events


def told_history(shape, program, memory, bells, most):
    """The events of a run of the plain machine, without beats."""
    check_run_of(shape, program, memory)
    check_bells(bells)
    check_number(most, 0, MOST_STEPS)
    going = Going(Plain(shape, program, memory=memory))
    wanted = [int(number) for number in bells if number <= most]
    rings = {number: True for number in wanted}
    taken = {}
    events = []
    number = 0
    while number < most and going.over is None:
        number += 1
        place, many = going.at, len(going.shown)
        taken[number] = go_on(shape, program, going, number in rings)
        events.extend(events_of_step(going, place, taken[number], many))
    for ring in wanted:
        if not taken.get(ring, False):
            raise Refused(("bell", ring))
    return plainly_made(tuple(events))


def check_computer(computer):
    """Refuse what is no computer."""
    if not isinstance(computer, Computer):
        raise InvalidOperation("this is no computer")


def bells_of(computer):
    """The numbers of the steps behind which the bell was taken."""
    check_computer(computer)
    number = 0
    found = []
    for event in computer.history:
        if event[0] == "step":
            number += 1
        elif event[0] == "bell":
            found.append(number)
    return tuple(found)


def most_waits(computer):
    """The greatest number of waits between two steps."""
    check_computer(computer)
    return computer._running.longest
