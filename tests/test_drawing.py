import unittest

from sandline.board import Board
from sandline.drawing import read, rebuilt, shown
from sandline.errors import NoBoard, NoDrawing
from sandline.walking import lines
from tests.boards import SIGNS, SIZES, all_boards, looks, mixed, signs_of

# All the signs of which a text to be read may be made.
TEXT_SIGNS = ["\t", "\n"] + [chr(code) for code in range(ord(" "), ord("~") + 1) if chr(code) != "%"]


def drawn(board):
    # Point 11 word by word.
    found = []
    for row in range(board.high):
        dots = ["o"]
        for column in range(1, board.wide):
            dots += [board.sign(("row", column - 1, row)), "o"]
        found.append("".join(dots))
        if row + 1 < board.high:
            found.append("+".join(board.sign(("column", column, row)) for column in range(board.wide)))
    return "\n".join(found)


def bare(wide, high):
    # A drawing of any size, also where there is no such board.
    return ("\n" + "+".join("." * wide) + "\n").join([".".join("o" * wide)] * high)


class Shown(unittest.TestCase):
    def test_written_out(self):
        self.assertEqual(shown(Board(1, 1)), "o")
        self.assertEqual(shown(Board(3, 1)), "o.o.o")
        self.assertEqual(shown(Board(1, 3)), "o\n.\no\n.\no")
        self.assertEqual(shown(Board(2, 2)), "o.o\n.+.\no.o")
        board = Board(3, 2)
        self.assertEqual(shown(board), "o.o.o\n.+.+.\no.o.o")
        board = board.changed(("row", 0, 0), "|").changed(("column", 2, 0), "|").changed(("row", 1, 1), "-")
        self.assertEqual(shown(board), "o|o.o\n.+.+|\no.o-o")
        self.assertEqual(shown(board.changed(("column", 0, 0), "-")), "o|o.o\n-+.+|\no.o-o")

    def test_line_by_line(self):
        for board in all_boards():
            before = looks(board)
            with self.subTest(board=before):
                text = shown(board)
                self.assertIs(type(text), str)
                self.assertEqual(text.split("\n"), drawn(board).split("\n"))
                self.assertEqual(len(text.split("\n")), 2 * board.high - 1)
                self.assertEqual({len(row) for row in text.split("\n")}, {2 * board.wide - 1})
                self.assertEqual(looks(board), before)


class Read(unittest.TestCase):
    def check_refused(self, text):
        with self.subTest(text=text):
            self.assertRaises(NoDrawing, read, text)

    def test_written_out(self):
        self.assertEqual(looks(read("o")), (1, 1, []))
        self.assertEqual(looks(read("o-o")), (2, 1, [(("row", 0, 0), "-")]))
        self.assertEqual(looks(read("o\n|\no")), (1, 2, [(("column", 0, 0), "|")]))
        self.assertEqual(looks(read("o|o.o\n.+.+|\no.o-o")), (3, 2, [
            (("row", 0, 0), "|"), (("column", 0, 0), "."), (("row", 1, 0), "."), (("column", 1, 0), "."),
            (("column", 2, 0), "|"), (("row", 0, 1), "."), (("row", 1, 1), "-"),
        ]))

    def test_the_drawing_of_each_board(self):
        for board in all_boards():
            with self.subTest(board=looks(board)):
                told = read(drawn(board))
                self.assertIs(type(told), Board)
                self.assertEqual(looks(told), looks(board))
                self.assertEqual(shown(told), drawn(board))

    def test_every_size_within_the_bounds_and_no_other(self):
        for wide in range(1, 15):
            for high in range(1, 15):
                text = bare(wide, high)
                if wide <= 12 and high <= 12 and wide * high <= 36:
                    self.assertEqual(looks(read(text)), looks(Board(wide, high)))
                else:
                    self.check_refused(text)

    def test_large_sizes(self):
        for wide, high in ((36, 1), (1, 36), (37, 1), (1, 37), (350, 1), (1, 175), (13, 13), (18, 2), (2, 18)):
            self.assertLessEqual(len(bare(wide, high)), 700)
            self.check_refused(bare(wide, high))

    def test_no_drawing(self):
        texts = (
            "", "\n", " ", "\t", "\n\n", "\n\n\n", ".", "|", "-", "+", "O", "0", "o\n", "\no", "o ", " o", "o\t", "\to",
            "oo", "o.", ".o", "o..o", "o.o.", ".o.o", "o.o\n", "\no.o", "o o", "o+o", "ooo", "o/o", "o\no", "o\n.", ".\no",
            "o\n+\no", "o\no\no", "o\n\no", "o\n \no", "o\n.\no\n", "o\n.\no ", "o\n.\no\n\n", "+", "...", "+.+", ".+.",
            "o.o\n.+.", ".+.\no.o\n.+.", "o.o\n...\no.o", "o.o\n+.+\no.o", "o.o\n.o.\no.o", "o.o\n.+\no.o", "o.o\n.+. \no.o",
            "o.o\n.+.\no.o\n", "o.o\n.+.\no.o ", " o.o\n.+.\no.o", "o.o \n.+.\no.o", "o.o\n\n.+.\n\no.o", "o.o\no.o",
            "o.o\n.+.\n.+.\no.o", "o.o,.+.,o.o", "o.o .+. o.o", "o.o.+.o.o", "o.o\n.+.\no", "o\n.+.\no.o", "o\n.+.\no",
            "o.o.o\n.+.\no.o.o", "o.o.o\n.+.+.\no.o", "o.o\n.+.+.\no.o.o", "o" * 700, "\n" * 700, "." * 699, "x" * 700,
        )
        for text in texts:
            self.check_refused(text)

    def check_places(self, board):
        # At each place each other sign: at a door's place another board is drawn, elsewhere nothing.
        text = drawn(board)
        place_of_door = {}
        for door, sign in signs_of(board):
            other = board.changed(door, "-" if sign == "|" else "|")
            place_of_door[[one == two for one, two in zip(text, drawn(other))].index(False)] = door
        for place in range(len(text)):
            for sign in TEXT_SIGNS:
                wrong = text[:place] + sign + text[place + 1:]
                if place in place_of_door and sign in SIGNS:
                    self.assertEqual(looks(read(wrong)), looks(board.changed(place_of_door[place], sign)))
                elif wrong != text:
                    self.check_refused(wrong)

    def test_another_sign_at_each_place(self):
        for board in (Board(1, 1), mixed(3, 1, 1), mixed(1, 3, 1), Board(2, 2), mixed(3, 3, 2), mixed(4, 3, 1)):
            self.check_places(board)

    def test_a_sign_more_or_less_at_each_place(self):
        for wide, high in ((1, 1), (3, 1), (1, 3), (2, 2), (4, 3), (12, 3), (3, 12)):
            text = drawn(mixed(wide, high, 1))
            for place in range(len(text) + 1):
                for sign in ("o", "+", ".", "|", "-", " ", "\t", "\n", "x"):
                    self.check_refused(text[:place] + sign + text[place:])
            for place in range(len(text)):
                self.check_refused(text[:place] + text[place + 1:])

    def test_a_line_left_out_doubled_longer_or_shorter(self):
        for wide, high in ((1, 1), (4, 1), (1, 4), (2, 2), (4, 4), (12, 3), (3, 12), (9, 4), (7, 5)):
            rows = drawn(mixed(wide, high, 2)).split("\n")
            for place, row in enumerate(rows):
                ahead = rows[:place]
                behind = rows[place + 1:]
                self.check_refused("\n".join(ahead + behind))
                for wrong in ([row, row], [row, ""], ["", row], [row + row], [""], [row[:-1]], [row[1:]]):
                    self.check_refused("\n".join(ahead + wrong + behind))
                for end in (" ", "\t", "\n", "o", ".", "+", "|", "-"):
                    self.check_refused("\n".join(ahead + [row + end] + behind))
                    self.check_refused("\n".join(ahead + [end + row] + behind))
                if len(rows) > 1:
                    self.check_refused("\n".join(ahead + [row + ".o"] + behind))
                    self.check_refused("\n".join(ahead + [row + "+."] + behind))

    def test_something_ahead_or_behind(self):
        for wide, high in SIZES:
            text = drawn(mixed(wide, high, 1))
            for more in (" ", "\t", "\n", "\n\n", ".", "o", "+", "\n" + text, text):
                self.check_refused(text + more)
                self.check_refused(more + text)

    def test_lines_of_different_lengths_that_are_each_a_line_of_a_drawing(self):
        self.check_refused("o.o.o\n.+.\no")
        self.check_refused("o\n.+.\no.o.o")
        self.check_refused("o.o\n.+.\no.o\n.\no.o")

    def test_lines_changed_about(self):
        rows = drawn(Board(3, 3)).split("\n")
        self.check_refused("\n".join(rows[1:] + rows[:1]))
        self.check_refused("\n".join([rows[1], rows[0], rows[1], rows[0], rows[1]]))

    def test_boards_that_were_read_stay_apart(self):
        first = read("o.o")
        second = read("o.o")
        self.assertIsNot(first, second)
        first.changed(("row", 0, 0), "|")
        self.assertEqual(second.sign(("row", 0, 0)), ".")


class Rebuilt(unittest.TestCase):
    def check(self, board):
        found = lines(board)
        before = [list(line) for line in found]
        with self.subTest(board=looks(board)):
            told = rebuilt(board.wide, board.high, found)
            self.assertIs(type(told), Board)
            self.assertEqual(looks(told), looks(board))
            self.assertEqual(found, before)
            for line in found:
                line.reverse()
            found.clear()
            self.assertEqual(looks(told), looks(board))
            self.assertEqual(lines(told), before)

    def test_many_boards(self):
        for board in all_boards():
            self.check(board)

    def test_written_out(self):
        wall = [[(0, 0, 0), (0, 0, 3), (0, 0, 2), (0, 0, 1)], [(1, 0, 0), (1, 0, 3), (1, 0, 2), (1, 0, 1)]]
        self.assertEqual(looks(rebuilt(2, 1, wall)), (2, 1, [(("row", 0, 0), "|")]))
        way = [[(0, 0, 0), (0, 0, 3), (0, 1, 0), (0, 1, 3), (0, 1, 2), (0, 1, 1), (0, 0, 2), (0, 0, 1)]]
        self.assertEqual(looks(rebuilt(1, 2, way)), (1, 2, [(("column", 0, 0), "|")]))
        self.assertEqual(looks(rebuilt(1, 1, [[(0, 0, 0), (0, 0, 3), (0, 0, 2), (0, 0, 1)]])), (1, 1, []))

    def test_no_board_of_that_size(self):
        for wide, high in ((0, 1), (1, 0), (13, 1), (1, 13), (7, 6), (-1, -1)):
            self.assertRaises(NoBoard, rebuilt, wide, high, [])


if __name__ == "__main__":
    unittest.main()
