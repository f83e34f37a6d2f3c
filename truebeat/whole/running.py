"""What a computer does from beat to beat: a pipe, near lines and a memory that change, and what happened."""

from truebeat.core.gates import gated_beat
from truebeat.core.pipe import ask_of, beat_behind, first_pipe
from truebeat.near.turns import Turning, beat_on
from truebeat.plain.deeds import ENDS
from truebeat.plain.shapes import word_at


class Running:
    """A computer that changes. `net` is that of the pipe in gates, or `None`.

    `pipe` is the pipe state, `turning` the near lines over the memory, `events` the history; `now`, `done` and
    `idle` are how many beats, steps and waits there were, `since` how many waits there were behind the last
    step, and `longest` how many between two steps at most.
    """

    def __init__(self, of_shape, of_program, net, pipe, turning):
        self.of_shape = of_shape
        self.of_program = of_program
        self.net = net
        self.pipe = pipe
        self.turning = turning
        self.events = []
        self.now = 0
        self.done = 0
        self.idle = 0
        self.since = 0
        self.longest = 0


def copied(running):
    """The same once more, to be changed by itself."""
    ahead = running.turning
    turning = Turning(list(ahead.rows), ahead.doing, {place: ahead.store[place] for place in ahead.store})
    made = Running(running.of_shape, running.of_program, running.net, running.pipe, turning)
    made.events = list(running.events)
    made.now, made.done, made.idle = running.now, running.done, running.idle
    made.since, made.longest = running.since, running.longest
    return made


def pipe_behind(running, choice, reset):
    """The pipe state behind a beat, and the wires, of the pipe itself or of its net."""
    word = word_at(running.of_program, running.pipe["pc"])
    if running.net is not None:
        return gated_beat(running.of_shape, running.net, running.pipe, word, choice, reset)
    if reset == 1:
        return first_pipe(running.of_shape), {}
    return beat_behind(running.of_shape, running.pipe, word, choice)


def do_reset(running):
    """Let the pipe have one beat of reset, which counts nowhere."""
    running.pipe, _ = pipe_behind(running, (0, 0, 0, 0), 1)


def put_events(running, wires):
    """Put down what happens at a beat at which a step is done."""
    now = running.now
    running.events.append(("step", now, wires["done_pc"]))
    if wires["put"] == 1:
        running.events.append(("put", now, wires["put_word"]))
    if wires["rang"] == 1:
        running.events.append(("bell", now))
    end = ENDS[wires["ended"]]
    if end is not None:
        running.events.append((end[0], now, *end[1:]))


def do_beat(running, choice):
    """Let a computer do one beat."""
    guess, ready, victim, bell = choice
    ask = ask_of(running.pipe)
    answer = beat_on(running.turning, ask, (ready, victim))
    data = answer[1] if answer is not None and answer[0] == "read" else 0
    behind, wires = pipe_behind(running, (guess, 0 if answer is None else 1, data, bell), 0)
    running.pipe = behind
    running.now += 1
    if ask is not None and answer is None:
        running.idle += 1
        running.since += 1
        running.longest = max(running.longest, running.since)
    if wires["done"] == 1:
        running.done += 1
        running.since = 0
        put_events(running, wires)


def has_ended(running):
    """Whether a computer has ended."""
    return running.pipe["ended"] > 0
