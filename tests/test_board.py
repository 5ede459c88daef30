import unittest

from sandline.board import Board
from sandline.errors import NoBoard, NoDoor, NoSign
from tests.boards import SIGNS, signs_of

# Longer than the digits that Python writes as a text.
HUGE = 10 ** 5000


class Sizes(unittest.TestCase):
    def test_every_size_within_the_bounds_is_a_board_and_no_other(self):
        for wide in range(-3, 40):
            for high in range(-3, 40):
                with self.subTest(wide=wide, high=high):
                    if 1 <= wide <= 12 and 1 <= high <= 12 and wide * high <= 36:
                        board = Board(wide, high)
                        self.assertEqual((board.wide, board.high), (wide, high))
                    else:
                        self.assertRaises(NoBoard, Board, wide, high)

    def test_edges(self):
        for size in ((1, 1), (12, 3), (3, 12), (6, 6), (12, 1), (1, 12), (5, 7), (7, 5), (4, 9), (9, 4)):
            with self.subTest(size=size):
                board = Board(size[0], size[1])
                self.assertEqual((board.wide, board.high), size)

    def test_refused(self):
        sizes = (
            (0, 0), (0, 1), (1, 0), (-1, 1), (1, -1), (-1, -1), (-6, -6),
            (13, 1), (1, 13), (13, 2), (36, 1), (1, 36),
            (12, 4), (4, 12), (6, 7), (7, 6), (37, 1),
            (10 ** 9, 10 ** 9), (10 ** 9, 1), (1, 10 ** 9), (10 ** 9, 0), (-(10 ** 9), 1), (-(10 ** 9), -(10 ** 9)),
            (HUGE, 1), (1, HUGE), (HUGE, HUGE), (-HUGE, 1), (1, -HUGE), (-HUGE, HUGE),
        )
        for place, size in enumerate(sizes):
            with self.subTest(place=place):
                self.assertRaises(NoBoard, Board, size[0], size[1])


class Doors(unittest.TestCase):
    def test_one_dot_has_none(self):
        self.assertEqual(Board(1, 1).doors(), [])

    def test_one_dot_high(self):
        self.assertEqual(Board(4, 1).doors(), [("row", 0, 0), ("row", 1, 0), ("row", 2, 0)])

    def test_one_dot_wide(self):
        self.assertEqual(Board(1, 4).doors(), [("column", 0, 0), ("column", 0, 1), ("column", 0, 2)])

    def test_three_by_two(self):
        self.assertEqual(Board(3, 2).doors(), [
            ("row", 0, 0), ("column", 0, 0), ("row", 1, 0), ("column", 1, 0), ("column", 2, 0),
            ("row", 0, 1), ("row", 1, 1),
        ])

    def test_two_by_three(self):
        self.assertEqual(Board(2, 3).doors(), [
            ("row", 0, 0), ("column", 0, 0), ("column", 1, 0),
            ("row", 0, 1), ("column", 0, 1), ("column", 1, 1),
            ("row", 0, 2),
        ])

    def test_how_many_and_in_order(self):
        for wide, high in ((12, 3), (3, 12), (6, 6), (5, 7)):
            with self.subTest(wide=wide, high=high):
                doors = Board(wide, high).doors()
                self.assertEqual(len(doors), (wide - 1) * high + wide * (high - 1))
                self.assertEqual(len(set(doors)), len(doors))
                self.assertEqual(doors, sorted(doors, key=lambda door: (door[2], door[1], door[0] == "column")))

    def test_a_list_of_tuples(self):
        doors = Board(3, 3).doors()
        self.assertIs(type(doors), list)
        self.assertEqual({type(door) for door in doors}, {tuple})

    def test_what_was_told_is_the_askers_own(self):
        board = Board(3, 2)
        told = board.doors()
        before = list(told)
        told.reverse()
        told.append(("row", 7, 7))
        self.assertEqual(board.doors(), before)
        told.clear()
        self.assertEqual(board.doors(), before)
        self.assertIsNot(board.doors(), board.doors())
        self.assertRaises(NoDoor, board.sign, ("row", 7, 7))

    def test_order_stays_on_a_changed_board(self):
        board = Board(3, 2)
        changed = board.changed(("row", 1, 1), "|").changed(("row", 0, 0), "-")
        self.assertEqual(changed.doors(), board.doors())
        changed.doors().clear()
        self.assertEqual(changed.doors(), board.doors())


class Signs(unittest.TestCase):
    def test_a_new_board_has_no_mirrors(self):
        for wide, high in ((1, 1), (2, 1), (1, 2), (3, 2), (6, 6), (12, 3), (3, 12)):
            board = Board(wide, high)
            for door in board.doors():
                self.assertEqual(board.sign(door), ".")

    def test_each_sign_at_each_door_upon_each_sign(self):
        board = Board(3, 2)
        for door in board.doors():
            for first in SIGNS:
                for second in SIGNS:
                    with self.subTest(door=door, first=first, second=second):
                        once = board.changed(door, first)
                        twice = once.changed(door, second)
                        self.assertEqual(board.sign(door), ".")
                        self.assertEqual(once.sign(door), first)
                        self.assertEqual(twice.sign(door), second)

    def test_the_other_doors_and_the_board_that_was_asked_stay(self):
        board = Board(3, 3).changed(("row", 0, 0), "|").changed(("column", 2, 1), "-").changed(("row", 1, 2), "-")
        before = signs_of(board)
        for door in board.doors():
            for sign in SIGNS:
                with self.subTest(door=door, sign=sign):
                    changed = board.changed(door, sign)
                    self.assertEqual(
                        signs_of(changed), [(other, sign if other == door else stood) for other, stood in before]
                    )
                    self.assertEqual(signs_of(board), before)
                    self.assertEqual((board.wide, board.high), (3, 3))

    def test_a_changed_board_is_a_new_board_of_the_same_size(self):
        board = Board(4, 2)
        for sign in SIGNS:
            changed = board.changed(("row", 0, 0), sign)
            self.assertIsInstance(changed, Board)
            self.assertIsNot(changed, board)
            self.assertEqual((changed.wide, changed.high), (4, 2))

    def test_two_boards_made_from_one_stay_apart(self):
        board = Board(2, 2)
        first = board.changed(("row", 0, 0), "|")
        second = board.changed(("row", 0, 0), "-")
        third = first.changed(("column", 0, 0), "-")
        self.assertEqual(board.sign(("row", 0, 0)), ".")
        self.assertEqual(first.sign(("row", 0, 0)), "|")
        self.assertEqual(second.sign(("row", 0, 0)), "-")
        self.assertEqual(third.sign(("row", 0, 0)), "|")
        self.assertEqual(first.sign(("column", 0, 0)), ".")
        self.assertEqual(second.sign(("column", 0, 0)), ".")

    def test_new_boards_share_nothing(self):
        Board(2, 2).changed(("row", 0, 0), "|")
        self.assertEqual(Board(2, 2).sign(("row", 0, 0)), ".")

    def test_a_door_made_anew_is_the_same_door(self):
        board = Board(3, 2).changed(tuple(["row", 1, 1]), "|")
        self.assertEqual(board.sign(tuple(["row", 1, 1])), "|")


class Refusals(unittest.TestCase):
    NO_DOORS = (
        ("row", 2, 0), ("row", 2, 1), ("column", 0, 1), ("column", 2, 1), ("row", 0, 2), ("column", 3, 0),
        ("row", -1, 0), ("row", 0, -1), ("column", 0, -1), ("column", -1, 0), ("row", 3, 0), ("column", 0, 2),
        ("other", 0, 0), ("", 0, 0), ("Row", 0, 0), ("row", 10 ** 9, 0), ("row", HUGE, 0), ("column", 0, -HUGE),
    )
    NO_SIGNS = ("", " ", "+", "o", "/", "..", "|-", ".|", ".|-", "- ", "\n", "x" * 1000)

    def test_no_sign_is_told_of_a_door_that_is_not_there(self):
        board = Board(3, 2)
        for place, door in enumerate(self.NO_DOORS):
            with self.subTest(place=place):
                self.assertRaises(NoDoor, board.sign, door)

    def test_a_door_that_is_not_there_is_not_changed(self):
        board = Board(3, 2)
        before = signs_of(board)
        for place, door in enumerate(self.NO_DOORS):
            for sign in SIGNS:
                with self.subTest(place=place, sign=sign):
                    self.assertRaises(NoDoor, board.changed, door, sign)
        self.assertEqual(signs_of(board), before)

    def test_the_door_is_looked_at_before_the_sign(self):
        board = Board(3, 2)
        for place, door in enumerate(self.NO_DOORS):
            for sign in self.NO_SIGNS:
                with self.subTest(place=place, sign=sign):
                    self.assertRaises(NoDoor, board.changed, door, sign)

    def test_a_sign_that_is_none_of_the_three(self):
        board = Board(3, 2).changed(("row", 0, 0), "|")
        before = signs_of(board)
        for door in board.doors():
            for sign in self.NO_SIGNS:
                with self.subTest(door=door, sign=sign):
                    self.assertRaises(NoSign, board.changed, door, sign)
        self.assertEqual(signs_of(board), before)

    def test_one_dot_has_no_door_to_ask_for(self):
        for door in (("row", 0, 0), ("column", 0, 0)):
            self.assertRaises(NoDoor, Board(1, 1).sign, door)
            self.assertRaises(NoDoor, Board(1, 1).changed, door, "|")
            self.assertRaises(NoDoor, Board(1, 1).changed, door, "?")

    def test_doors_of_the_wrong_kind_on_boards_one_dot_wide_or_high(self):
        self.assertRaises(NoDoor, Board(4, 1).sign, ("column", 0, 0))
        self.assertRaises(NoDoor, Board(1, 4).sign, ("row", 0, 0))


if __name__ == "__main__":
    unittest.main()
