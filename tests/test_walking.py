import unittest

from sandline.board import Board
from sandline.walking import led, lines
from tests.boards import SIGNS, mixed, order, quarters, signs_of, some_boards

# Point 6 word for word: the west dot is W, the east one E, the north one N, the south one S.
ROW_PAIRS = {
    ".": (("W", 1, "E", 3), ("W", 2, "E", 0)),
    "|": (("W", 1, "W", 2), ("E", 0, "E", 3)),
    "-": (("W", 1, "E", 0), ("W", 2, "E", 3)),
}
COLUMN_PAIRS = {
    ".": (("N", 3, "S", 1), ("N", 2, "S", 0)),
    "-": (("N", 3, "N", 2), ("S", 0, "S", 1)),
    "|": (("N", 3, "S", 0), ("N", 2, "S", 1)),
}


class Led(unittest.TestCase):
    def check_door(self, board, door, dots, pairs, level):
        for one, corner, other, facing in pairs[board.sign(door)]:
            here = dots[one] + (corner,)
            there = dots[other] + (facing,)
            with self.subTest(signs=signs_of(board), door=door, here=here, there=there):
                self.assertEqual(led(board, here, level), there)
                self.assertEqual(led(board, there, level), here)

    def check_doors(self, board):
        for door in board.doors():
            kind, column, row = door
            dot = (column, row)
            if kind == "row":
                self.check_door(board, door, {"W": dot, "E": (column + 1, row)}, ROW_PAIRS, True)
            else:
                self.check_door(board, door, {"N": dot, "S": (column, row + 1)}, COLUMN_PAIRS, False)

    def test_each_sign_at_each_door(self):
        board = Board(3, 3)
        for door in board.doors():
            for sign in SIGNS:
                self.check_doors(board.changed(door, sign))

    def test_doors_of_many_boards(self):
        for board in some_boards():
            self.check_doors(board)

    def check_rim(self, board):
        west, east, north, south = 0, board.wide - 1, 0, board.high - 1
        for row in range(board.high):
            for column, corner, other in ((west, 0, 3), (west, 3, 0), (east, 1, 2), (east, 2, 1)):
                self.assertEqual(led(board, (column, row, corner), True), (column, row, other))
        for column in range(board.wide):
            for row, corner, other in ((north, 0, 1), (north, 1, 0), (south, 2, 3), (south, 3, 2)):
                self.assertEqual(led(board, (column, row, corner), False), (column, row, other))

    def test_where_the_dot_has_no_neighbour(self):
        for board in some_boards():
            with self.subTest(wide=board.wide, high=board.high, signs=signs_of(board)):
                self.check_rim(board)

    def test_one_dot(self):
        board = Board(1, 1)
        self.assertEqual([led(board, (0, 0, corner), True) for corner in range(4)],
                         [(0, 0, 3), (0, 0, 2), (0, 0, 1), (0, 0, 0)])
        self.assertEqual([led(board, (0, 0, corner), False) for corner in range(4)],
                         [(0, 0, 1), (0, 0, 0), (0, 0, 3), (0, 0, 2)])

    def test_the_middle_of_a_board_written_out(self):
        board = Board(3, 3).changed(("row", 0, 1), "|").changed(("row", 1, 1), "-")
        board = board.changed(("column", 1, 0), "|").changed(("column", 1, 1), "-")
        self.assertEqual([led(board, (1, 1, corner), True) for corner in range(4)],
                         [(1, 1, 3), (2, 1, 0), (2, 1, 3), (1, 1, 0)])
        self.assertEqual([led(board, (1, 1, corner), False) for corner in range(4)],
                         [(1, 0, 3), (1, 0, 2), (1, 1, 3), (1, 1, 2)])
        board = Board(3, 3)
        self.assertEqual([led(board, (1, 1, corner), True) for corner in range(4)],
                         [(0, 1, 2), (2, 1, 3), (2, 1, 0), (0, 1, 1)])
        self.assertEqual([led(board, (1, 1, corner), False) for corner in range(4)],
                         [(1, 0, 2), (1, 0, 3), (1, 2, 0), (1, 2, 1)])

    def test_a_quarter_that_is_led_to_is_another_and_leads_back(self):
        for board in some_boards():
            before = signs_of(board)
            for level in (True, False):
                told = [led(board, quarter, level) for quarter in quarters(board)]
                self.assertEqual(sorted(told, key=order), quarters(board))
                for quarter, other in zip(quarters(board), told):
                    self.assertIs(type(other), tuple)
                    self.assertNotEqual(other, quarter)
                    self.assertEqual(led(board, other, level), quarter)
            self.assertEqual(signs_of(board), before)


class Lines(unittest.TestCase):
    def test_one_dot(self):
        self.assertEqual(lines(Board(1, 1)), [[(0, 0, 0), (0, 0, 3), (0, 0, 2), (0, 0, 1)]])

    def test_two_dots_in_a_row(self):
        board = Board(2, 1)
        door = ("row", 0, 0)
        self.assertEqual(lines(board), [
            [(0, 0, 0), (0, 0, 3), (0, 0, 2), (1, 0, 0), (1, 0, 1), (1, 0, 2), (1, 0, 3), (0, 0, 1)],
        ])
        self.assertEqual(lines(board.changed(door, "|")), [
            [(0, 0, 0), (0, 0, 3), (0, 0, 2), (0, 0, 1)],
            [(1, 0, 0), (1, 0, 3), (1, 0, 2), (1, 0, 1)],
        ])
        self.assertEqual(lines(board.changed(door, "-")), [
            [(0, 0, 0), (0, 0, 3), (0, 0, 2), (1, 0, 3), (1, 0, 2), (1, 0, 1), (1, 0, 0), (0, 0, 1)],
        ])

    def test_two_dots_in_a_column(self):
        board = Board(1, 2)
        door = ("column", 0, 0)
        self.assertEqual(lines(board), [
            [(0, 0, 0), (0, 0, 3), (0, 1, 1), (0, 1, 2), (0, 1, 3), (0, 1, 0), (0, 0, 2), (0, 0, 1)],
        ])
        self.assertEqual(lines(board.changed(door, "-")), [
            [(0, 0, 0), (0, 0, 3), (0, 0, 2), (0, 0, 1)],
            [(0, 1, 0), (0, 1, 3), (0, 1, 2), (0, 1, 1)],
        ])
        self.assertEqual(lines(board.changed(door, "|")), [
            [(0, 0, 0), (0, 0, 3), (0, 1, 0), (0, 1, 3), (0, 1, 2), (0, 1, 1), (0, 0, 2), (0, 0, 1)],
        ])

    def test_two_by_two(self):
        board = Board(2, 2)
        self.assertEqual(lines(board), [
            [(0, 0, 0), (0, 0, 3), (0, 1, 1), (1, 1, 3), (1, 1, 2), (1, 1, 1), (1, 0, 3), (0, 0, 1)],
            [(0, 0, 2), (1, 0, 0), (1, 0, 1), (1, 0, 2), (1, 1, 0), (0, 1, 2), (0, 1, 3), (0, 1, 0)],
        ])
        self.assertEqual(lines(board.changed(("row", 0, 0), "|")), [
            [(0, 0, 0), (0, 0, 3), (0, 1, 1), (1, 1, 3), (1, 1, 2), (1, 1, 1), (1, 0, 3), (1, 0, 0),
             (1, 0, 1), (1, 0, 2), (1, 1, 0), (0, 1, 2), (0, 1, 3), (0, 1, 0), (0, 0, 2), (0, 0, 1)],
        ])

    def test_a_line_round_the_middle_begins_at_its_least_quarter(self):
        board = Board(2, 2)
        for door, sign in ((("row", 0, 0), "-"), (("row", 0, 1), "-"), (("column", 0, 0), "|"), (("column", 1, 0), "|")):
            board = board.changed(door, sign)
        self.assertEqual(lines(board), [
            [(0, 0, 0), (0, 0, 3), (0, 1, 0), (0, 1, 3), (0, 1, 2), (1, 1, 3),
             (1, 1, 2), (1, 1, 1), (1, 0, 2), (1, 0, 1), (1, 0, 0), (0, 0, 1)],
            [(0, 0, 2), (1, 0, 3), (1, 1, 0), (0, 1, 1)],
        ])

    def test_lines_go_by_row_before_column(self):
        board = Board(2, 2)
        for door, sign in ((("row", 0, 0), "|"), (("row", 0, 1), "|"), (("column", 0, 0), "-"), (("column", 1, 0), "-")):
            board = board.changed(door, sign)
        self.assertEqual(lines(board), [
            [(0, 0, 0), (0, 0, 3), (0, 0, 2), (0, 0, 1)],
            [(1, 0, 0), (1, 0, 3), (1, 0, 2), (1, 0, 1)],
            [(0, 1, 0), (0, 1, 3), (0, 1, 2), (0, 1, 1)],
            [(1, 1, 0), (1, 1, 3), (1, 1, 2), (1, 1, 1)],
        ])

    def test_every_quarter_just_once(self):
        for board in some_boards():
            told = [quarter for line in lines(board) for quarter in line]
            self.assertEqual(sorted(told, key=order), quarters(board))

    def test_each_line_from_its_least_and_the_lines_by_their_first(self):
        for board in some_boards():
            told = lines(board)
            for line in told:
                self.assertEqual(line[0], min(line, key=order))
            firsts = [line[0] for line in told]
            self.assertEqual(firsts, sorted(firsts, key=order))

    def test_each_line_goes_on_by_turns_and_closes(self):
        for board in some_boards():
            for line in lines(board):
                self.assertEqual(len(line) % 2, 0)
                for place, quarter in enumerate(line):
                    follower = line[(place + 1) % len(line)]
                    self.assertEqual(led(board, quarter, place % 2 == 0), follower)

    def test_how_many_lines_without_mirrors(self):
        for size, many in (((3, 2), 1), ((2, 2), 2), ((4, 2), 2), ((6, 6), 6), ((12, 3), 3), ((3, 12), 3), ((6, 4), 2)):
            with self.subTest(size=size):
                self.assertEqual(len(lines(Board(size[0], size[1]))), many)

    def test_kinds(self):
        told = lines(mixed(3, 3, 1))
        self.assertIs(type(told), list)
        for line in told:
            self.assertIs(type(line), list)
            self.assertEqual({type(quarter) for quarter in line}, {tuple})

    def test_what_was_told_is_the_askers_own(self):
        board = Board(4, 2).changed(("row", 1, 0), "|")
        told = lines(board)
        before = [list(line) for line in told]
        for line in told:
            line.reverse()
            line.append((9, 9, 9))
        told.pop()
        self.assertEqual(lines(board), before)
        self.assertEqual(len({id(line) for line in told + lines(board)}), len(told) + len(before))

    def test_the_board_stays(self):
        board = mixed(4, 3, 2)
        before = signs_of(board)
        lines(board)
        self.assertEqual(signs_of(board), before)
        self.assertEqual((board.wide, board.high), (4, 3))

    def test_a_change_leaves_the_lines_of_the_board_that_was_asked(self):
        board = Board(3, 3)
        before = lines(board)
        changed = board.changed(("row", 1, 1), "|")
        self.assertNotEqual(lines(changed), before)
        self.assertEqual(lines(board), before)


if __name__ == "__main__":
    unittest.main()
