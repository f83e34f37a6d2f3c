"""Beats counted: at which beat each step is done, by a run of the pipe, and by the plain machine alone."""

from truebeat.base.checks import is_between, is_bit, is_tuple_of
from truebeat.base.words import check_number
from truebeat.core.meaning import is_square_choice, word_of_beat
from truebeat.core.pipe import beat_behind, first_pipe, is_long
from truebeat.errors import InvalidChoice, Refused, TooMany
from truebeat.plain.deeds import LOAD, STORE, put_word, reads_found, values_read
from truebeat.plain.machine import Going, Plain, go_on
from truebeat.plain.shapes import check_memory, check_program, check_shape, fields, given_by, word_at

MOST_COUNTED = 3000
MOST_WAIT = 20
LATE = 2
LOAD_OP = 10
STORE_OP = 11


def check_run_of(shape, program, memory):
    """Refuse, in this sequence, a wrong shape, program and memory."""
    check_shape(shape)
    check_program(program)
    check_memory(shape.width, memory)


class Telling:
    """A told run that goes on from beat to beat: its pipe state, its memory, and its marks, as lists."""

    def __init__(self, shape, program, memory):
        self.pipe = first_pipe(shape)
        self.store = {place: memory[place] for place in memory}
        self.of_shape = shape
        self.of_program = program
        self.marks = []
        self.now = 0


def mark_of(telling, behind, wires):
    """The mark of the step that is done at a beat."""
    # A step that is done and strikes nothing leaves one in decode: it is fetched, or it is held there.
    struck = behind["d_on"] == 0 and behind["ended"] == 0
    wrong = 1 if struck and wires["rang"] == 0 else 0
    return [telling.now, wires["done_pc"], wrong, wires["rang"], 0]


def tell_beat(telling, choice):
    """Let a told run go on by one beat."""
    guess, ready, bell = choice
    ahead = telling.pipe
    data = telling.store.get(ahead["m_x"], 0) if ahead["m_kind"] == LOAD else 0
    word = word_at(telling.of_program, ahead["pc"])
    behind, wires = beat_behind(telling.of_shape, ahead, word, (guess, ready, data, bell))
    telling.now += 1
    if word_of_beat(ahead, wires, ready) == "wait":
        # Only the step done last asks, for what is asked is done at the next beat that does not wait.
        telling.marks[-1][4] += 1
    elif ahead["m_kind"] == STORE:
        put_word(telling.store, ahead["m_x"], ahead["m_y"])
    if wires["done"] == 1:
        telling.marks.append(mark_of(telling, behind, wires))
    telling.pipe = behind


def record(shape, program, memory, choices):
    """The marks of all steps that are done in a told run."""
    check_run_of(shape, program, memory)
    if not is_tuple_of(choices, 0, MOST_COUNTED) or not all([is_square_choice(shape, choice) for choice in choices]):
        raise InvalidChoice("these are no choices")
    telling = Telling(shape, program, memory)
    for choice in choices:
        tell_beat(telling, choice)
    return tuple([tuple([int(number) for number in mark]) for mark in telling.marks])


class Counting:
    """What is reckoned from step to step: the plain machine, and what the beat of the next step hangs on."""

    def __init__(self, shape, program, memory):
        self.going = Going(Plain(shape, program, memory=memory))
        self.of_shape = shape
        self.of_program = program
        self.now = 0
        self.late = LATE
        self.loaded = 0


def next_word(counting):
    """The step word of the step that is done next."""
    return word_at(counting.of_program, counting.going.at)


def asks_of_word(word):
    """Whether a step with this word asks something of the memory."""
    return fields(word)[0] in (LOAD_OP, STORE_OP)


def beats_of_next(counting):
    """How many beats the next step takes, with those that come to it."""
    shape, word = counting.of_shape, next_word(counting)
    _, two = values_read(shape, word, counting.going.held)
    beats = shape.width + 2 if is_long(word, two) else 1
    if counting.late == 0 and counting.loaded > 0 and counting.loaded in reads_found(shape, word):
        return beats + 1
    return beats + counting.late


def count_step(counting, wrong, rang, waited):
    """Let the next step be done: its beat, and whether the bell was taken behind it."""
    word = next_word(counting)
    beat = counting.now + beats_of_next(counting)
    taken = go_on(counting.of_shape, counting.of_program, counting.going, rang == 1)
    counting.now = beat + waited
    counting.late = LATE if wrong == 1 or rang == 1 else 0
    counting.loaded = given_by(counting.of_shape, word) if fields(word)[0] == LOAD_OP else 0
    return beat, taken


def is_told(value):
    """Whether the value tells of a step whether it is wrong, whether the bell rings, and what it waits."""
    if not is_tuple_of(value, 3, 3):
        return False
    return is_bit(value[0]) and is_bit(value[1]) and is_between(value[2], 0, MOST_COUNTED)


def check_told(told):
    """Refuse what is no row of triples."""
    if not is_tuple_of(told, 0, MOST_COUNTED) or not all([is_told(triple) for triple in told]):
        raise InvalidChoice("this is no row of triples")


def word_against(triple, word, ended, taken):
    """What the triple of a step cannot be, `None` if it can."""
    wrong, rang, waited = triple
    if rang == 1 and not taken:
        return "bell"
    if wrong == 1 and (rang == 1 or ended):
        return "wrong"
    return "waited" if waited > 0 and not asks_of_word(word) else None


class Planned:
    """What a row of triples leads to: the beat of each step, and the place to which it goes on without a bell."""

    def __init__(self):
        self.done_at = []
        self.goals = []


def plan_steps(shape, program, memory, told):
    """What a row of triples leads to, refused where it cannot be."""
    counting = Counting(shape, program, memory)
    planned = Planned()
    for index, triple in enumerate(told):
        if counting.going.over is not None:
            raise Refused(("ended", index))
        word = next_word(counting)
        beat, taken = count_step(counting, *triple)
        against = word_against(triple, word, counting.going.over is not None, taken)
        if against is not None:
            raise Refused((against, index))
        planned.done_at.append(int(beat))
        planned.goals.append(counting.going.at)
    return planned


def counted(shape, program, memory, told):
    """The beats at which the steps are done, by the plain machine alone."""
    check_run_of(shape, program, memory)
    check_told(told)
    return tuple(plan_steps(shape, program, memory, told).done_at)


def guess_for(telling, planned, told):
    """The guess for the step that is fetched next, if those ahead of it are guessed rightly."""
    index = len(telling.marks) + telling.pipe["x_on"] + telling.pipe["d_on"]
    if index >= len(told):
        return 0
    # What is fetched behind a wrong guess is struck, so nothing hangs on its own one.
    return (planned.goals[index] + told[index][0]) % (1 << telling.of_shape.width)


def planned_choice(telling, planned, told):
    """The choice of the next beat of a told run that leads to what is planned."""
    number = len(telling.marks)
    waits = number > 0 and telling.marks[-1][4] < told[number - 1][2]
    bell = told[number][1] if number < len(told) and planned.done_at[number] == telling.now + 1 else 0
    return guess_for(telling, planned, told), 0 if waits else 1, int(bell)


def choices_for(shape, program, memory, told):
    """Choices of a told run whose record has these triples."""
    check_run_of(shape, program, memory)
    check_told(told)
    planned = plan_steps(shape, program, memory, told)
    many = planned.done_at[-1] + told[-1][2] if told else 0
    if many > MOST_COUNTED:
        raise TooMany(MOST_COUNTED)
    telling = Telling(shape, program, memory)
    choices = []
    for _ in range(many):
        choices.append(planned_choice(telling, planned, told))
        tell_beat(telling, choices[-1])
    return tuple(choices)


def last_beat(shape, program, memory, steps, wrong, wait):
    """The beat of the last one of so many steps, all guessed wrongly or none, each ask waiting so many beats."""
    counting = Counting(shape, program, memory)
    beat = 0
    for number in range(steps):
        if counting.going.over is not None:
            raise Refused(("ended", number))
        waited = wait if asks_of_word(next_word(counting)) else 0
        beat, _ = count_step(counting, wrong, 0, waited)
    return int(beat)


def fewest_beats(shape, program, memory, steps):
    """The least beat at which a step is done without bells."""
    check_run_of(shape, program, memory)
    check_number(steps, 1, MOST_COUNTED)
    return last_beat(shape, program, memory, steps, 0, 0)


def most_beats(shape, program, memory, steps, wait):
    """The greatest beat at which a step is done without bells, each ask waiting at most so many beats."""
    check_run_of(shape, program, memory)
    check_number(steps, 1, MOST_COUNTED)
    check_number(wait, 0, MOST_WAIT)
    return last_beat(shape, program, memory, steps, 1, wait)
