"""Logs: the texts of boards."""

from truebeat.errors import BeatError, InvalidLines, InvalidNumber, InvalidOperation, NothingToUndo, ParseError
from truebeat.errors import Refused, TooMany, UnknownName
from truebeat.house.board import Board, first_of
from truebeat.near.lines import Near
from truebeat.plain.shapes import Shape, check_memory, check_program
from truebeat.text.pieces import number_in, numbers_in

FIRST_LINES = 4


def with_commas(numbers):
    """The numbers with commas between them."""
    return ",".join([str(number) for number in numbers])


def memory_piece(memory):
    """The piece that tells a memory."""
    return ",".join([f"{place}:{memory[place]}" for place in memory]) if memory else "-"


def near_piece(near):
    """The piece that tells near lines."""
    return "/".join([with_commas([int(member) for member in line]) for line in near.lines])


def board_line(shape, gates):
    """The line that tells the shape, and whether there are gates."""
    return f"board {shape.width} {shape.registers} {int(gates)}"


def program_line(program):
    """The line that tells a program."""
    return f"program {with_commas(program)}"


def memory_line(memory):
    """The line that tells a memory, whose places ascend."""
    return f"memory {memory_piece(memory)}"


def near_line(near):
    """The line that tells the first near lines."""
    return f"near {near_piece(near)}"


def call_line(call):
    """The line that tells a call."""
    word, what = call
    if word == "go":
        pieces = ["/".join([with_commas(choice) for choice in what])]
    elif word == "back":
        pieces = [str(what)]
    else:
        pieces = [str(member) for member in what]
    return " ".join([word, *pieces])


def log_text(board):
    """The log of a board."""
    if not isinstance(board, Board):
        raise InvalidOperation("this is no board")
    first = first_of(board)
    lines = [board_line(first.shape, first.gates), program_line(first.program), memory_line(first.memory)]
    lines = [*lines, near_line(first.near)] + [call_line(call) for call in board.calls]
    return "".join([f"{line}\n" for line in lines])


def pieces_behind(line, word):
    """The pieces of a line behind its first word, none if it begins otherwise."""
    pieces = line.split(" ")
    return pieces[1:] if pieces[0] == word else []


def only_piece(line, word):
    """The one piece of a line behind its first word, an empty one if there are not just two."""
    pieces = pieces_behind(line, word)
    return pieces[0] if len(pieces) == 1 else ""


def number_rows(piece, outer, inner):
    """The rows of numbers of a piece, by the signs between rows and numbers; `None` for a row that is none."""
    return [numbers_in(part, inner) for part in piece.split(outer)]


def read_board_line(line):
    """The shape, and whether there are gates; `None` for a wrong line."""
    numbers = [number_in(piece) for piece in pieces_behind(line, "board")]
    if len(numbers) != 3 or numbers[2] not in (0, 1):
        return None
    try:
        return Shape(numbers[0], numbers[1]), numbers[2] == 1
    except BeatError:
        return None


def read_program_line(line):
    """The program, `None` for a wrong line."""
    program = numbers_in(only_piece(line, "program"), ",")
    try:
        check_program(program)
    except BeatError:
        return None
    return program


def read_memory_line(shape, line):
    """The memory, `None` for a wrong line."""
    piece = only_piece(line, "memory")
    rows = [] if piece == "-" else number_rows(piece, ",", ":")
    if not all([row is not None and len(row) == 2 for row in rows]):
        return None
    memory = {place: word for place, word in sorted(rows)}
    try:
        check_memory(shape.width, memory)
    except BeatError:
        return None
    return memory if memory_line(memory) == line else None


def read_near_line(shape, line):
    """The near lines, `None` for a wrong line."""
    rows = number_rows(only_piece(line, "near"), "/", ",")
    if not all([row is not None and len(row) == 5 and row[0] in (0, 1) and row[2] in (0, 1) for row in rows]):
        return None
    lines = tuple([(on == 1, block, dirty == 1, low, high) for on, block, dirty, low, high in rows])
    try:
        return Near(shape.width, len(lines) // 2, lines)
    except (BeatError, InvalidNumber):
        return None


def line_at(lines, index):
    """The line with an index, which is refused if it is lacking."""
    if index >= len(lines):
        raise ParseError(index)
    return lines[index]


def told_by(found, index):
    """What a line was found to tell, refused if it is wrong."""
    if found is None:
        raise ParseError(index)
    return found


def first_board(lines):
    """The board that the first lines tell."""
    shape, gates = told_by(read_board_line(line_at(lines, 0)), 0)
    program = told_by(read_program_line(line_at(lines, 1)), 1)
    memory = told_by(read_memory_line(shape, line_at(lines, 2)), 2)
    near = told_by(read_near_line(shape, line_at(lines, 3)), 3)
    try:
        return Board(shape, program, memory, near, gates=gates)
    except InvalidLines:
        raise ParseError(3)


def stop_in(pieces):
    """What pieces tell of a stop."""
    if pieces[0] == "field":
        return ("field", *pieces[1:2], *[number_in(piece) for piece in pieces[2:]])
    return (pieces[0], *[number_in(piece) for piece in pieces[1:]])


def do_call(board, word, rest):
    """Let the board do a call, which is told by its word and by the pieces behind it."""
    if word == "go" and len(rest) == 1:
        board.go(tuple(number_rows(rest[0], "/", ",")))
    elif word == "back" and len(rest) == 1:
        board.back(beats=number_in(rest[0]))
    elif word == "stop" and len(rest) > 0:
        board.stop(stop_in(rest))
    elif word == "unstop" and len(rest) > 0:
        board.unstop(stop_in(rest))
    else:
        raise InvalidOperation("this is no call")


def is_line_done(board, line):
    """Let the board do the call that a line tells; whether the line is that of the call which was done."""
    pieces = line.split(" ")
    many = len(board.calls)
    try:
        do_call(board, pieces[0], pieces[1:])
    except (BeatError, InvalidNumber, NothingToUndo, Refused, TooMany, UnknownName):
        return False
    return len(board.calls) > many and call_line(board.calls[-1]) == line


def read_log(text):
    """The board that a log tells, and how many characters its lines with a newline have."""
    if not isinstance(text, str):
        raise ParseError(None)
    lines = text.split("\n")[:-1]
    board = first_board(lines)
    for index, line in enumerate(lines[FIRST_LINES:], FIRST_LINES):
        if not is_line_done(board, line):
            raise ParseError(index)
    return board, sum([len(line) + 1 for line in lines])
