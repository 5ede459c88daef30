import unittest

from sandline.board import Board
from sandline.shading import shades
from sandline.walking import lines
from tests.boards import all_boards, looks

# East and south of its dot's north-west quarter, by corner.
ASIDE = ((0, 0), (1, 0), (1, 1), (0, 1))


def shade_of(table, quarter):
    column, row, corner = quarter
    east, south = ASIDE[corner]
    return table[2 * row + south][2 * column + east]


class Shades(unittest.TestCase):
    def check(self, board):
        before = looks(board)
        table = shades(board)
        with self.subTest(board=before):
            self.assertIs(type(table), list)
            self.assertEqual({type(row) for row in table}, {list})
            self.assertEqual([len(row) for row in table], [2 * board.wide] * (2 * board.high))
            self.assertEqual({type(shade) for row in table for shade in row}, {bool})
            for line in lines(board):
                told = [shade_of(table, quarter) for quarter in line]
                self.assertEqual(told, [True, False] * (len(line) // 2))
            self.assertEqual(looks(board), before)

    def test_many_boards(self):
        for board in all_boards():
            self.check(board)

    def test_one_dot(self):
        self.assertEqual(shades(Board(1, 1)), [[True, False], [False, True]])

    def test_two_dots_in_a_row(self):
        board = Board(2, 1)
        door = ("row", 0, 0)
        self.assertEqual(shades(board), [
            [True, False, False, True],
            [False, True, True, False],
        ])
        self.assertEqual(shades(board.changed(door, "|")), [
            [True, False, True, False],
            [False, True, False, True],
        ])
        self.assertEqual(shades(board.changed(door, "-")), [
            [True, False, True, False],
            [False, True, False, True],
        ])

    def test_two_dots_in_a_column(self):
        board = Board(1, 2)
        door = ("column", 0, 0)
        self.assertEqual(shades(board), [
            [True, False],
            [False, True],
            [False, True],
            [True, False],
        ])
        self.assertEqual(shades(board.changed(door, "-")), [
            [True, False],
            [False, True],
            [True, False],
            [False, True],
        ])
        self.assertEqual(shades(board.changed(door, "|")), [
            [True, False],
            [False, True],
            [True, False],
            [False, True],
        ])

    def test_two_by_two(self):
        self.assertEqual(shades(Board(2, 2)), [
            [True, False, False, True],
            [False, True, True, False],
            [False, True, True, False],
            [True, False, False, True],
        ])

    def test_what_was_told_is_the_askers_own(self):
        for board in (Board(1, 1), Board(4, 3), Board(3, 12)):
            told = shades(board)
            before = [list(row) for row in told]
            again = shades(board)
            self.assertEqual(len({id(row) for row in told + again}), 4 * board.high)
            for row in told:
                row.reverse()
                row.append(None)
            told.pop()
            self.assertEqual(again, before)
            self.assertEqual(shades(board), before)

    def test_a_place_that_is_changed_leaves_all_others(self):
        told = shades(Board(3, 2))
        before = [list(row) for row in told]
        told[0][0] = None
        before[0][0] = None
        self.assertEqual(told, before)


if __name__ == "__main__":
    unittest.main()
