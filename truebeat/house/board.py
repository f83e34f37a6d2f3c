"""A board, which runs a computer, halts it where it is told to, and leads it back."""

from truebeat.base.checks import is_integer, own_value, plainly_made
from truebeat.base.words import check_number
from truebeat.errors import InvalidNumber, InvalidOperation, NothingToUndo, Refused, TooMany, UnknownName
from truebeat.house.stops import first_met, is_stop
from truebeat.plain.machine import MOST_STEPS
from truebeat.plain.shapes import given_by, word_at
from truebeat.whole.computer import Computer, check_choices, check_room, computer_behind, computer_of, running_of
from truebeat.whole.running import do_beat, has_ended

MOST_CALLS = 200
MOST_STOPS = 20


class Board:
    """A board. It changes: each call that stands is kept with what was there ahead of it."""

    def __init__(self, shape, program, memory, near, *, gates=False):
        self._first = Computer(shape, program, memory, near, gates=gates)
        self._computer = self._first
        self._trail = ()
        self._stops = ()
        self._calls = ()
        self._ahead = ()

    @property
    def computer(self):
        """The computer, as it is now."""
        return self._computer

    @property
    def trail(self):
        """All choices that lead from the first computer to this one."""
        return self._trail

    @property
    def stops(self):
        """The stops, in the order in which they were put."""
        return self._stops

    @property
    def calls(self):
        """The calls that stand, in order."""
        return self._calls

    def __eq__(self, other):
        return isinstance(other, Board) and all_of(self) == all_of(other)

    def __len__(self):
        return len(self._calls)

    def __contains__(self, value):
        return is_stop(self._first.shape, value) and value in self._stops

    def __str__(self):
        return f"board at beat {self._computer.beats}, {len(self._stops)} stops, {len(self._calls)} calls"

    def go(self, choices, *, steps=None):
        """Do beats until something halts the computer: how many were done, and what halts it."""
        check_choices(self._first.shape, choices)
        if steps is not None:
            check_number(steps, 1, MOST_STEPS)
        check_room(self._computer, len(choices))
        check_calls(self)
        running = running_of(self._computer)
        done, word = go_until(running, choices, self._stops, steps)
        if done > 0:
            note_call(self, ("go", choices[:done]))
            self._computer = computer_of(self._computer, running)
            self._trail = self._trail + self._calls[-1][1]
        return done, word

    def back(self, *, beats=1):
        """Let the computer be as it was so many beats ago: the length of the trail."""
        check_from_one(beats)
        if beats > len(self._trail):
            raise NothingToUndo(int(beats))
        check_calls(self)
        trail = self._trail[:len(self._trail) - beats]
        computer = computer_along(self, trail)
        note_call(self, ("back", beats))
        self._computer = computer
        self._trail = trail
        return len(self._trail)

    def stop(self, stop):
        """Put a stop behind the others: how many there are."""
        check_stop(self, stop)
        if stop in self._stops:
            raise Refused(("twice",))
        if len(self._stops) == MOST_STOPS:
            raise TooMany(MOST_STOPS)
        check_calls(self)
        note_call(self, ("stop", stop))
        self._stops = (*self._stops, self._calls[-1][1])
        return len(self._stops)

    def unstop(self, stop):
        """Take a stop away: how many there are."""
        check_stop(self, stop)
        if stop not in self._stops:
            raise UnknownName(plainly_made(stop))
        check_calls(self)
        note_call(self, ("unstop", stop))
        self._stops = tuple([other for other in self._stops if other != stop])
        return len(self._stops)

    def undo(self, *, calls=1):
        """Take the last calls back with all that they did: how many stand."""
        check_from_one(calls)
        many = len(self._calls) - calls
        if many < 0:
            raise NothingToUndo(int(calls))
        self._computer, self._trail, self._stops = self._ahead[many]
        self._calls = self._calls[:many]
        self._ahead = self._ahead[:many]
        return len(self._calls)

    def writer(self, number):
        """The number and the place of the last step that gave a word to a register, `None` if there is none."""
        shape = self._first.shape
        check_number(number, 1, shape.registers - 1)
        places = places_given(self._computer)
        for index in range(len(places) - 1, -1, -1):
            if given_by(shape, word_at(self._first.program, places[index])) == number:
                return index + 1, places[index]
        return None

    def twin(self):
        """An equal board that changes by itself."""
        first = self._first
        made = Board(first.shape, first.program, first.memory, first.near, gates=first.gates)
        made._computer, made._trail, made._stops = self._computer, self._trail, self._stops
        made._calls, made._ahead = self._calls, self._ahead
        return made


def all_of(board):
    """All that makes a board what it is."""
    return board.computer, board.trail, board.stops, board.calls


def first_of(board):
    """The computer with which a board began."""
    return board._first


def check_stop(board, value):
    """Refuse what is no stop."""
    if not is_stop(board.computer.shape, value):
        raise InvalidOperation("this is no stop")


def check_from_one(value):
    """Refuse what is no integer from 1 on."""
    if not is_integer(value) or value < 1:
        raise InvalidNumber(own_value(value))


def check_calls(board):
    """Refuse one more call than a board may have."""
    if len(board.calls) == MOST_CALLS:
        raise TooMany(MOST_CALLS)


def note_call(board, call):
    """Put a call behind the others, with what is there ahead of it."""
    board._ahead = (*board._ahead, (board.computer, board.trail, board.stops))
    board._calls = (*board._calls, plainly_made(call))


def what_halts(running, stops, goal):
    """What halts a computer behind a beat, `None` for nothing; `goal` is a number of steps, or `None`."""
    if has_ended(running):
        return "ended"
    index = first_met(running, stops)
    if index is not None:
        return "stop", index
    return "steps" if running.done == goal else None


def go_until(running, choices, stops, steps):
    """Let a computer do beats until something halts it: how many, and what halts it."""
    if has_ended(running):
        return 0, "ended"
    goal = None if steps is None else running.done + steps
    for many, choice in enumerate(choices, 1):
        do_beat(running, plainly_made(choice))
        word = what_halts(running, stops, goal)
        if word is not None:
            return many, word
    return len(choices), None


def computer_along(board, trail):
    """The computer to which a trail leads, which is the beginning of that of the board."""
    start, done = first_of(board), 0
    # What was there ahead of a call is a start, too, if no call back has left its trail since.
    for computer, ahead, _ in board._ahead:
        if done < len(ahead) <= len(trail) and trail[:len(ahead)] == ahead:
            start, done = computer, len(ahead)
    return computer_behind(start, trail[done:])


def places_given(computer):
    """The places of all steps that were done without a fault."""
    places = []
    for event in computer.history:
        if event[0] == "step":
            places.append(event[2])
        elif event[0] == "fault":
            places.pop()
    return places
