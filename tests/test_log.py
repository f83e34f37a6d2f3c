"""Logs [20.5] and [20.6]."""

import unittest

from machines_made import SHAPES
from support import alike, check_own_kinds, check_refused, expect, odd_but, random_source
from test_board import WELL, some_board
from test_computer import BYTE, END, LOOP, PUT, SET, STORE
from truebeat.errors import InvalidOperation, ParseError
from truebeat.house.board import Board
from truebeat.house.log import log_text, read_log
from truebeat.near.lines import Near
from truebeat.plain.shapes import Shape


def text_by_words(board, first):
    """The log by the words of [20.5]; `first` is the computer with which the board began."""
    lines = [f"board {first.shape.width} {first.shape.registers} {1 if first.gates else 0}", "program " + ",".join(map(str, first.program)),
             "memory " + (",".join(f"{place}:{word}" for place, word in sorted(first.memory.items())) or "-"),
             "near " + "/".join(",".join(str(int(member)) for member in line) for line in first.near.lines)]
    for word, what in board.calls:
        if word == "go":
            lines.append("go " + "/".join(",".join(map(str, choice)) for choice in what))
        elif word == "back":
            lines.append(f"back {what}")
        else:
            lines.append(" ".join([word, *map(str, what)]))
    return "".join(line + "\n" for line in lines)


def beginning(board, calls):
    """The board as it was behind so many of its calls."""
    then = board.twin()
    if calls < len(board):
        then.undo(calls=len(board) - calls)
    return then


class LogTest(unittest.TestCase):
    def check_read(self, text, board, many=None):
        told = read_log(text)
        self.assertTrue(alike(told[0], board) and told[0] == board)
        self.assertEqual(told[1], len(text) if many is None else many)
        check_own_kinds(self, told)
        self.assertIsInstance(told, tuple)
        return told[0]

    def test_example(self):
        board = Board(Shape(4, 2), (37379, 61953, 61440), {}, Near(4, 1))
        board.stop(("put",))
        board.go(WELL)
        text = "board 4 2 0\nprogram 37379,61953,61440\nmemory -\nnear 0,0,0,0,0/0,0,0,0,0\nstop put\ngo 1,1,0,0/2,1,0,0/3,1,0,0/4,1,0,0\n"
        self.assertEqual(log_text(board), text)
        self.check_read(text, board)

    def test_drawn(self):
        """[20.6]: a log is read back, and each beginning tells the board as it was."""
        source = random_source(1)
        words = {}
        for turn in range(60):
            board, own = some_board(source, SHAPES[turn % len(SHAPES)], gates=turn % 12 == 0, calls=source.randrange(20))
            text = log_text(board)
            self.assertEqual(text, text_by_words(board, own.first))
            again = self.check_read(text, board)
            self.assertEqual(again.computer.gates, board.computer.gates)
            self.assertEqual(log_text(again), text)
            for word, _ in board.calls:
                words[word] = words.get(word, 0) + 1
            lines = text.split("\n")
            for cut in [source.randrange(len(text)) for _ in range(6)]:
                whole = text[:cut].count("\n")
                if whole < 4:
                    expect(self, ParseError, whole, read_log, text[:cut])
                else:
                    self.check_read(text[:cut], beginning(board, whole - 4), len("".join(line + "\n" for line in lines[:whole])))
            # What was read goes on like the board.
            self.assertEqual(again.stop(("steps", 99)), board.stop(("steps", 99)))
            self.assertEqual(log_text(again), log_text(board))
        self.assertTrue(all(words.get(word, 0) > 10 for word in ("go", "back", "stop", "unstop")), words)

    def great_board(self):
        first = Near(8, 2, ((True, 2, True, 9, 200), (False, 0, False, 0, 0), (False, 5, True, 1, 1), (True, 3, False, 4, 0)))
        board = Board(BYTE, (SET, STORE, PUT, END), {6: 4, 30: 255}, first)
        board.stop(("field", "x_on", 1))
        board.stop(("word", 2, 3))
        board.go(WELL[:4])
        board.unstop(("field", "x_on", 1))
        board.go(WELL)
        board.back()
        board.stop(("put",))
        board.go(tuple((place, 1, 1, 0) for place in (4, 5, 6, 7, 8)), steps=1)
        board.stop(("place", 200))
        return board

    def test_cut_at_each_place(self):
        board = self.great_board()
        text = log_text(board)
        self.assertGreaterEqual(len(board), 8)
        for cut in range(len(text) + 1):
            whole = text[:cut].count("\n")
            if whole < 4:
                expect(self, ParseError, whole, read_log, text[:cut])
            else:
                self.check_read(text[:cut], beginning(board, whole - 4), text[:cut].rfind("\n") + 1)
        self.check_read(text + "behind the last newline", board, len(text))
        self.check_read(text + "go 1,1", board, len(text))

    def test_each_character_spoilt(self):
        """A text with a character exchanged, left out or put in is no log, or the log of what it tells."""
        text = log_text(self.great_board())
        read = 0
        for place in range(len(text)):
            line = text[:place].count("\n")
            for other in {text[:place] + sign + text[place + 1:] for sign in "0129 -,/:x\n\t"} | {
                    text[:place] + text[place + 1:], text[:place] + "0" + text[place:], text[:place] + " " + text[place:]}:
                if other == text:
                    continue
                try:
                    board, many = read_log(other)
                except ParseError as error:
                    self.assertTrue(line <= error.spot <= other.count("\n"), (other, error.spot))
                else:
                    self.assertEqual(log_text(board), other[:many])
                    read += 1
        self.assertGreater(read, 20)

    def test_lines_spoilt(self):
        board = self.great_board()
        lines = log_text(board).split("\n")[:-1]
        wrong = {
            0: ("board 8 4", "board 8 4 2", "board 3 4 0", "board 8 3 0", "board 08 4 0", "board 8 4 0 ", "board  8 4 0", "boards 8 4 0", "", "board",
                "board 8 4 0 0", "board 8 4 True", "board -8 4 0", "board 8 4 -0", "board 17 4 0", "Board 8 4 0", "board " + "9" * 70 + " 4 0"),
            1: ("program", "program ", "program 1,,2", "program 1, 2", "program 65536", "program -1", "program 01", "program 1,", "programs 1", "program 1 2",
                "program " + ",".join(["0"] * 257), "program x", "program 1;2", "memory -"),
            2: ("memory", "memory ", "memory 6:0", "memory 256:1", "memory 6:256", "memory 6:4,6:4", "memory 30:255,6:4", "memory 6:4,", "memory 6", "memory 6:4:5",
                "memory --", "memory -,6:4", "memory 6:04", "memory 6=4", "memory 6:4 30:255", "memory 6:4,-", "memory -1:4"),
            3: ("near", "near ", "near 0,0,0,0,0", "near 0,0,0,0,0/0,0,0,0,0/0,0,0,0,0", "near " + lines[3][5:] + "/", "near 2" + lines[3][6:],
                "near True" + lines[3][6:], lines[3].replace("/", ",", 1), lines[3].replace("1,2,1", "1,2,2"), lines[3].replace("200", "256"),
                lines[3].replace("1,2,1", "1,3,1"), lines[3].replace("1,2,1,9", "1,2,0,9"), lines[3] + " 0", lines[3].replace(",4,0", ",04,0"),
                lines[3] + "/0,0,0,0,0/0,0,0,0,0"),
            4: ("stop", "stop ", "stop field x_on", "stop field x_on 01", "stop field r9 1", "stop field x_on 65536", "stop field x_on 1 1", "stop put 1", "stop none",
                "stop word 2", "stop word 256 1", "stop steps 0", "stop steps 3001", "stop place", "stop place x", "stop field", "stop field 1 1", "unstop put",
                "back 1", "go", "go ", "go 1,1,0", "go 1,1,0,0/", "go 1,1,0,2", "go 256,1,0,0", "go 1,1,0,0 1,1,0,0", "go 01,1,0,0", "go -1,1,0,0", "undo 1", "",
                "twin", "back", "back 0", "back x", "stop  put", " stop put", "stop put ", "stop word 2 -3", "stop bell bell"),
        }
        for index, spoilt in wrong.items():
            for line in spoilt:
                told = lines[:index] + [line] + lines[index + 1:]
                expect(self, ParseError, index, read_log, "".join(other + "\n" for other in told))
                expect(self, ParseError, index, read_log, "".join(other + "\n" for other in told[:index + 1]))
        # A good memory for which the near lines are not kept: it is these that cannot be.
        for line in ("memory 5:1", "memory -"):
            expect(self, ParseError, 3, read_log, "".join(other + "\n" for other in [*lines[:2], line, *lines[3:]]))
        for index in range(len(lines)):
            for line in (lines[index] + " ", " " + lines[index], lines[index] + " 1", lines[index].upper() + "X", "\t" + lines[index]):
                told = lines[:index] + [line] + lines[index + 1:]
                expect(self, ParseError, index, read_log, "".join(other + "\n" for other in told))

    def test_lines_more(self):
        board = self.great_board()
        text = log_text(board)
        many = text.count("\n")
        for line in ("stop put", "unstop bell", "back 99", "back 0", "go", "", "go 1,1,0,0/x", "undo", "board 8 4 0"):
            expect(self, ParseError, many, read_log, text + line + "\n")
            expect(self, ParseError, many, read_log, text + line + "\nstop bell\n")
        other = board.twin()
        other.back(beats=2)
        self.check_read(text + "back 2\n", other)
        other.unstop(("put",))
        self.check_read(text + "back 2\nunstop put\nrest", other, len(text) + len("back 2\nunstop put\n"))

    def test_calls_that_cannot_be(self):
        """A `go` whose choices were not all done, and calls that raise errors."""
        head = f"board 8 4 0\nprogram {SET},{PUT},{END}\nmemory -\nnear 0,0,0,0,0/0,0,0,0,0\n"
        row = "/".join(",".join(map(str, choice)) for choice in WELL)
        self.assertEqual(read_log(head + f"go {row}\n")[0].computer.state["ended"], 1)
        expect(self, ParseError, 4, read_log, head + f"go {row}/6,1,0,0\n")
        expect(self, ParseError, 5, read_log, head + f"go {row}\ngo 6,1,0,0\n")
        expect(self, ParseError, 5, read_log, head + f"go {row}\ngo {row}\n")
        expect(self, ParseError, 5, read_log, head + f"stop put\ngo {row}\n")
        self.assertEqual(read_log(head + "stop put\ngo " + row.rsplit("/", 1)[0] + "\n")[0].computer.beats, 4)
        expect(self, ParseError, 4, read_log, head + "back 1\n")
        expect(self, ParseError, 5, read_log, head + "stop put\nstop put\n")
        expect(self, ParseError, 4, read_log, head + "unstop put\n")
        loop = f"board 8 4 0\nprogram {LOOP}\nmemory -\nnear 0,0,0,0,0/0,0,0,0,0\n"
        stops = "".join(f"stop place {place}\n" for place in range(20))
        self.assertEqual(len(read_log(loop + stops)[0]), 20)
        expect(self, ParseError, 24, read_log, loop + stops + "stop put\n")
        calls = "stop put\nunstop put\n" * 100
        self.assertEqual(len(read_log(loop + calls)[0]), 200)
        expect(self, ParseError, 204, read_log, loop + calls + "stop put\n")
        most = "/".join(["0,1,0,0"] * 3000)
        self.assertEqual(read_log(loop + f"go {most}\n")[0].computer.beats, 3000)
        expect(self, ParseError, 4, read_log, loop + f"go {most}/0,1,0,0\n")
        expect(self, ParseError, 5, read_log, loop + f"go {most}\ngo 0,1,0,0\n")
        gated = loop.replace("8 4 0", "8 4 1")
        self.assertEqual(read_log(gated + "go " + "/".join(["0,1,0,0"] * 400) + "\n")[0].computer.beats, 400)
        expect(self, ParseError, 4, read_log, gated + "go " + "/".join(["0,1,0,0"] * 401) + "\n")

    def test_first_lines(self):
        for count in range(4):
            lines = log_text(self.great_board()).split("\n")[:count]
            expect(self, ParseError, count, read_log, "".join(line + "\n" for line in lines))
            expect(self, ParseError, count, read_log, "".join(line + "\n" for line in lines) + "near 0,0,0,0,0")
        # Of several wrong lines, and lacking ones, the first one is told.
        expect(self, ParseError, 0, read_log, "")
        expect(self, ParseError, 0, read_log, "board 4 2 0")
        expect(self, ParseError, 1, read_log, "board 4 2 0\nprogram x\nmemory x\n")
        expect(self, ParseError, 0, read_log, "\n\n\n\n\n")
        great = Board(Shape(16, 2), (0,) * 256, {place: 65535 for place in range(1000)}, Near(16, 8))
        self.check_read(log_text(great), great)

    def test_errors(self):
        board = self.great_board()
        check_refused(self, log_text, (board,), [(0, InvalidOperation, odd_but() + [board.computer, BYTE, Board, Near(4, 1)])])
        for value in odd_but() + [board, b"board 4 2 0\n"]:
            if not isinstance(value, str):
                expect(self, ParseError, None, read_log, value)
        for text in odd_but():
            if isinstance(text, str):
                expect(self, ParseError, 0, read_log, text)


if __name__ == "__main__":
    unittest.main()
