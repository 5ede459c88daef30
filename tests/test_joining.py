import unittest

from sandline.board import Board
from sandline.joining import joined
from sandline.walking import lines
from tests.boards import SIGNS, every_board, looks, one_mirror, signed, signs_of, some_boards


def with_changes(board, changes):
    for door, sign in changes:
        board = board.changed(door, sign)
    return board


def fewest_changes(wide, high):
    # Outwards from all boards with one line, a change a step: by signs, how many changes each board needs.
    boards = [tuple(sign for door, sign in signs_of(board)) for board in every_board(wide, high)]
    needed = {signs: 0 for signs in boards if len(lines(signed(wide, high, signs))) == 1}
    edge = list(needed)
    while edge:
        further = []
        for signs in edge:
            for place in range(len(signs)):
                for sign in SIGNS:
                    other = signs[:place] + (sign,) + signs[place + 1:]
                    if other not in needed:
                        needed[other] = needed[signs] + 1
                        further.append(other)
        edge = further
    return needed


class Joined(unittest.TestCase):
    def check(self, board):
        before = looks(board)
        told = joined(board)
        with self.subTest(board=before, told=told):
            self.assertEqual(len(told), len(lines(board)) - 1)
            doors = board.doors()
            for door, sign in told:
                self.assertIn(door, doors)
                self.assertIn(sign, SIGNS)
                self.assertNotEqual(sign, board.sign(door))
            self.assertEqual(len({door for door, sign in told}), len(told))
            self.assertEqual(len(lines(with_changes(board, told))), 1)
            self.assertEqual(len(lines(with_changes(board, reversed(told)))), 1)
            self.assertEqual(looks(board), before)

    def test_many_boards(self):
        for board in some_boards():
            self.check(board)

    def test_one_mirror_at_each_door(self):
        for wide, high in ((4, 4), (12, 3), (3, 12), (9, 4), (7, 5), (6, 6)):
            for board in one_mirror(wide, high):
                self.check(board)

    def test_no_fewer_changes_leave_one_line(self):
        for wide, high in ((1, 1), (2, 1), (1, 2), (4, 1), (1, 4), (2, 2), (3, 2), (2, 3)):
            for signs, needed in fewest_changes(wide, high).items():
                board = signed(wide, high, signs)
                with self.subTest(wide=wide, high=high, signs=signs):
                    self.assertEqual(len(joined(board)), needed)
                self.check(board)

    def test_one_line_needs_no_change(self):
        for board in (Board(1, 1), Board(2, 1), Board(1, 2), Board(3, 2), Board(7, 5)):
            with self.subTest(board=looks(board)):
                self.assertEqual(len(lines(board)), 1)
                self.assertEqual(joined(board), [])

    def test_a_joined_board_needs_no_change(self):
        for board in some_boards():
            self.assertEqual(joined(with_changes(board, joined(board))), [])

    def test_two_dots_walled_off(self):
        told = joined(Board(2, 1).changed(("row", 0, 0), "|"))
        self.assertIn(told, [[(("row", 0, 0), ".")], [(("row", 0, 0), "-")]])
        told = joined(Board(1, 2).changed(("column", 0, 0), "-"))
        self.assertIn(told, [[(("column", 0, 0), ".")], [(("column", 0, 0), "|")]])

    def test_every_dot_walled_off(self):
        board = Board(12, 3)
        for door in board.doors():
            board = board.changed(door, "|" if door[0] == "row" else "-")
        self.assertEqual(len(lines(board)), 36)
        self.assertEqual(len(joined(board)), 35)
        self.check(board)

    def test_kinds(self):
        told = joined(Board(6, 6))
        self.assertIs(type(told), list)
        self.assertEqual(len(told), 5)
        for change in told:
            self.assertIs(type(change), tuple)
            door, sign = change
            self.assertIs(type(door), tuple)
            self.assertIs(type(sign), str)

    def test_what_was_told_is_the_askers_own(self):
        board = Board(4, 4)
        told = joined(board)
        before = list(told)
        told.reverse()
        told.append((("row", 9, 9), "?"))
        self.assertEqual(joined(board), before)
        one_line = Board(1, 1)
        joined(one_line).append((("row", 0, 0), "|"))
        self.assertEqual(joined(one_line), [])


if __name__ == "__main__":
    unittest.main()
