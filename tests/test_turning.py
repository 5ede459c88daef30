import unittest

from sandline.board import Board
from sandline.turning import flipped, turned
from sandline.walking import lines
from tests.boards import all_boards, looks, signs_of

TURNED_SIGNS = {".": ".", "|": "-", "-": "|"}


def dots_at(door):
    kind, column, row = door
    return frozenset([(column, row), (column + 1, row) if kind == "row" else (column, row + 1)])


def signs_by_dots(board):
    return {dots_at(door): sign for door, sign in signs_of(board)}


def moved(board, dot_to):
    return {frozenset(dot_to(dot) for dot in dots): sign for dots, sign in signs_by_dots(board).items()}


def line_sets(found):
    return {frozenset(line) for line in found}


class Turned(unittest.TestCase):
    def check(self, board):
        before = looks(board)
        # What lay furthest north lies furthest east; what lay furthest west lies furthest north.
        dot_to = lambda dot: (board.high - 1 - dot[1], dot[0])
        told = turned(board)
        with self.subTest(board=before):
            self.assertIs(type(told), Board)
            self.assertIsNot(told, board)
            self.assertEqual((told.wide, told.high), (board.high, board.wide))
            self.assertEqual(told.doors(), Board(board.high, board.wide).doors())
            asked = {dots: TURNED_SIGNS[sign] for dots, sign in moved(board, dot_to).items()}
            self.assertEqual(signs_by_dots(told), asked)
            turned_lines = [[dot_to(q[:2]) + ((q[2] + 1) % 4,) for q in line] for line in lines(board)]
            self.assertEqual(line_sets(lines(told)), line_sets(turned_lines))
            self.assertEqual(looks(turned(turned(turned(told)))), before)
            self.assertEqual(looks(board), before)

    def test_many_boards(self):
        for board in all_boards():
            self.check(board)

    def test_written_out(self):
        board = Board(3, 2).changed(("row", 0, 0), "|").changed(("column", 2, 0), "|").changed(("row", 1, 1), "-")
        self.assertEqual(signs_of(turned(board)), [
            (("row", 0, 0), "."), (("column", 0, 0), "."), (("column", 1, 0), "-"),
            (("row", 0, 1), "."), (("column", 0, 1), "|"), (("column", 1, 1), "."),
            (("row", 0, 2), "-"),
        ])

    def test_one_dot(self):
        board = Board(1, 1)
        self.assertIsNot(turned(board), board)
        self.assertEqual(looks(turned(board)), (1, 1, []))


class Flipped(unittest.TestCase):
    def check(self, board):
        before = looks(board)
        dot_to = lambda dot: (board.wide - 1 - dot[0], dot[1])
        told = flipped(board)
        with self.subTest(board=before):
            self.assertIs(type(told), Board)
            self.assertIsNot(told, board)
            self.assertEqual((told.wide, told.high), (board.wide, board.high))
            self.assertEqual(told.doors(), board.doors())
            self.assertEqual(signs_by_dots(told), moved(board, dot_to))
            flipped_lines = [[dot_to(q[:2]) + ((1, 0, 3, 2)[q[2]],) for q in line] for line in lines(board)]
            self.assertEqual(line_sets(lines(told)), line_sets(flipped_lines))
            self.assertEqual(looks(flipped(told)), before)
            self.assertEqual(looks(turned(flipped(turned(board)))), looks(told))
            self.assertEqual(looks(board), before)

    def test_many_boards(self):
        for board in all_boards():
            self.check(board)

    def test_written_out(self):
        board = Board(3, 2).changed(("row", 0, 0), "|").changed(("column", 2, 0), "|").changed(("row", 1, 1), "-")
        self.assertEqual(signs_of(flipped(board)), [
            (("row", 0, 0), "."), (("column", 0, 0), "|"), (("row", 1, 0), "|"),
            (("column", 1, 0), "."), (("column", 2, 0), "."),
            (("row", 0, 1), "-"), (("row", 1, 1), "."),
        ])

    def test_one_dot(self):
        board = Board(1, 1)
        self.assertIsNot(flipped(board), board)
        self.assertEqual(looks(flipped(board)), (1, 1, []))


if __name__ == "__main__":
    unittest.main()
