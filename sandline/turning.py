"""Boards turned by a quarter, and flipped."""

from sandline.board import with_signs

TURNED_SIGNS = {".": ".", "|": "-", "-": "|"}


def turned(board):
    placed = [(turned_door(board, door), TURNED_SIGNS[board.sign(door)]) for door in board.doors()]
    return with_signs(board.high, board.wide, placed)


def flipped(board):
    placed = [(flipped_door(board, door), board.sign(door)) for door in board.doors()]
    return with_signs(board.wide, board.high, placed)


# A door bears the name of its west or north dot. A door to the south turned leads to the west, and one to the east
# flipped does too: there the other one of its two dots gives the name, which is one column further west.
def turned_door(board, door):
    if door[0] == "row":
        return ("column", board.high - 1 - door[2], door[1])
    return ("row", board.high - 2 - door[2], door[1])


def flipped_door(board, door):
    if door[0] == "row":
        return ("row", board.wide - 2 - door[1], door[2])
    return ("column", board.wide - 1 - door[1], door[2])
