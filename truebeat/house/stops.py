"""Stops: where a board halts its computer."""

from truebeat.base.checks import is_between, is_tuple_of, is_word_of
from truebeat.core.fields import WORD_BITS, pipe_widths
from truebeat.near.turns import word_over
from truebeat.plain.machine import MOST_STEPS
from truebeat.plain.shapes import is_shape_word


def is_stop(shape, value):
    """Whether the value is a stop."""
    if is_tuple_of(value, 1, 1):
        return value[0] in ("put", "bell")
    if is_tuple_of(value, 2, 2):
        if value[0] == "place":
            return is_shape_word(shape, value[1])
        return value[0] == "steps" and is_between(value[1], 1, MOST_STEPS)
    if not is_tuple_of(value, 3, 3):
        return False
    word, at, told = value
    if word == "field":
        return isinstance(at, str) and at in pipe_widths(shape) and is_word_of(WORD_BITS, told)
    return word == "word" and is_shape_word(shape, at) and is_shape_word(shape, told)


def events_now(running):
    """What happened at the last beat."""
    events = []
    for event in running.events[::-1]:
        if event[1] < running.now:
            break
        events.append(event)
    return events


def does_event_meet(running, stop, events):
    """Whether a stop that waits for something to happen meets behind a beat with these events."""
    if stop[0] == "place":
        return any([event[0] == "step" and event[2] == stop[1] for event in events])
    if stop[0] == "steps":
        return running.done == stop[1] and any([event[0] == "step" for event in events])
    return any([event[0] == stop[0] for event in events])


def does_meet(running, stop, events):
    """Whether a stop meets behind a beat with these events."""
    if stop[0] == "field":
        return running.pipe[stop[1]] == stop[2]
    if stop[0] == "word":
        return word_over(running.turning.rows, running.turning.store, stop[1]) == stop[2]
    return does_event_meet(running, stop, events)


def first_met(running, stops):
    """The index of the first stop that meets behind a beat, `None` if none does."""
    events = events_now(running)
    for index, stop in enumerate(stops):
        if does_meet(running, stop, events):
            return index
    return None
