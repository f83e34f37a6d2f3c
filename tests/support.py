"""What the tests share: odd values, and checks of the errors that calls raise."""

import copy
import random

from truebeat import errors
from truebeat.house.board import Board
from truebeat.near.lines import Near
from truebeat.plain.machine import Plain
from truebeat.plain.shapes import Shape
from truebeat.whole.computer import Computer

PLAIN = Plain(Shape(4, 2), (0,))
PROPERTIES = {
    Shape: ("width", "registers"), Near: ("width", "sets", "lines", "turn"),
    Plain: ("shape", "program", "pc", "registers", "memory", "saved", "allowed", "ended", "outputs", "word"),
    Computer: ("shape", "program", "gates", "memory", "near", "state", "beats", "steps", "waits", "outputs", "history"),
    Board: ("computer", "trail", "stops", "calls"),
}
DEEP = (((((((1,),),),),),),)
ODD = (
    None, True, False, -1, -7, 10 ** 59 * 99, -(10 ** 60), 10 ** 219, "", "x", "not", "tab\tand\nline", "y" * 20000,
    (), (0,), (True,), (None,), ("x",), ((),), (0, 0, 0), ("x", 1), ("in", "x", True), DEEP, [], [0], [[]], {}, {0: 0},
    {"x": True}, {"x": 1}, {None: ()}, {(1, 2): []}, errors.TooMany(3), errors.InvalidNet("x"),
    PLAIN,
)
KEPT = {
    errors.InvalidNumber: "given", errors.UnknownName: "asked", errors.TooMany: "limit", errors.Refused: "reason",
    errors.ParseError: "spot", errors.NothingToUndo: "wanted",
}


def told_by(value):
    """What the properties of an object tell."""
    return tuple(getattr(value, name) for name in PROPERTIES[type(value)])


def alike(one, other):
    """Whether two values are equal and of equal kinds, all the way down."""
    if type(one) is not type(other):
        return False
    if type(one) in PROPERTIES:
        return alike(told_by(one), told_by(other)) and one == other
    if isinstance(one, (tuple, list)):
        return len(one) == len(other) and all(alike(a, b) for a, b in zip(one, other))
    if isinstance(one, dict):
        return list(one) == list(other) and all(alike(one[key], other[key]) for key in one)
    return one is other or one == other


def odd_but(*taken):
    """The odd values without those that a parameter takes."""
    return [value for value in ODD if not any(alike(value, other) for other in taken)]


def numbers_but(least, most):
    """The odd values and numbers just out of bounds, for a parameter from the least to the most."""
    return [least - 1, most + 1] + [value for value in ODD if type(value) is not int or not least <= value <= most]


def random_source(seed=1):
    return random.Random(seed)


def error_of(function, *args, **keywords):
    """The error that a call raises, `None` if it raises none."""
    try:
        function(*args, **keywords)
    except Exception as error:
        return error
    return None


def expect(test, kind, kept, function, *args, **keywords):
    """Check that a call raises just this kind of error, and what it keeps."""
    error = error_of(function, *args, **keywords)
    shown = (function.__name__, str(args)[:300], keywords, repr(error)[:200])
    test.assertIs(type(error), kind, shown)
    if kind in KEPT:
        test.assertTrue(alike(getattr(error, KEPT[kind]), kept), shown)


def check_refused(test, function, good, wrong, keywords=None):
    """Check each wrong value of each parameter, alone and with wrong later ones.

    `good` are good arguments by position, `keywords` those by keyword; `wrong` has in the sequence of
    the parameters (its index or its keyword, the kind of the error, the values).
    """
    keywords = keywords or {}
    before = copy.deepcopy((good, keywords))
    function(*good, **keywords)
    test.assertTrue(alike(before, (good, keywords)), function.__name__)
    for number, (where, kind, values) in enumerate(wrong):
        for turn, value in enumerate(values):
            args, named = list(good), dict(keywords)
            put_value(args, named, where, value)
            kept = value if kind is errors.InvalidNumber or kind is errors.UnknownName else None
            expect(test, kind, kept, function, *args, **named)
            for later, _, others in wrong[number + 1:]:
                put_value(args, named, later, others[turn % len(others)])
                expect(test, kind, kept, function, *args, **named)


def put_value(args, named, where, value):
    if isinstance(where, str):
        named[where] = value
    else:
        args[where] = value


def check_judge(test, function, ahead, rights, wrongs):
    """Check that a function takes all right values, and no wrong or odd one, without an error."""
    for value in rights:
        test.assertIs(function(*ahead, value), True, (function.__name__, str(value)[:300]))
    for value in list(wrongs) + odd_but(*rights):
        before = copy.deepcopy(value) if not isinstance(value, (Exception, Plain)) else value
        test.assertIs(function(*ahead, value), False, (function.__name__, str(value)[:300]))
        test.assertTrue(alike(before, value))


def check_own_kinds(test, value):
    """Check that a value is built from Python's own types, its dicts with ascending keys, also within objects."""
    if type(value) in PROPERTIES:
        value = (str(value), told_by(value))
    test.assertIn(type(value), (int, bool, str, tuple, dict, type(None)), value)
    if isinstance(value, tuple):
        for member in value:
            check_own_kinds(test, member)
    if isinstance(value, dict):
        test.assertEqual(list(value), sorted(value))
        for key in value:
            check_own_kinds(test, key)
            check_own_kinds(test, value[key])
