"""Boards of dots, with a sign at each door between two neighbours."""

from sandline.errors import NoBoard, NoDoor, NoSign

MOST_ALONG = 12
MOST_DOTS = 36
NO_MIRROR = "."
SIGNS = (".", "|", "-")


def is_size(wide, high):
    along = 1 <= wide <= MOST_ALONG and 1 <= high <= MOST_ALONG
    return along and wide * high <= MOST_DOTS


def doors_of(wide, high):
    found = []
    for row in range(high):
        for column in range(wide):
            if column + 1 < wide:
                found.append(("row", column, row))
            if row + 1 < high:
                found.append(("column", column, row))
    return found


# The errors' words show no number: one of very many digits can't be written as a text.
class Board:
    def __init__(self, wide, high):
        if not is_size(wide, high):
            raise NoBoard("a board is 1 to 12 dots wide and high, with at most 36 dots")
        self.wide = wide
        self.high = high
        # The keys stand in the order of the doors, and no door is ever added or taken away.
        self.signs = {}
        for door in doors_of(wide, high):
            self.signs[door] = NO_MIRROR

    def doors(self):
        return list(self.signs)

    def sign(self, door):
        self.demand(door)
        return self.signs[door]

    def changed(self, door, sign):
        self.demand(door)
        if sign not in SIGNS:
            raise NoSign("a sign is one of . | -")
        other = Board(self.wide, self.high)
        other.signs.update(self.signs)
        other.signs[door] = sign
        return other

    def demand(self, door):
        if door not in self.signs:
            raise NoDoor("the board has no such door")


def with_signs(wide, high, placed):
    board = Board(wide, high)
    for door, sign in placed:
        board = board.changed(door, sign)
    return board
