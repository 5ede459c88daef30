"""Drawings of boards, and boards rebuilt from their drawings or their lines."""

from sandline.board import Board, NO_MIRROR, is_size, with_signs
from sandline.errors import NoDrawing
from sandline.walking import sign_that_turns


def shown(board):
    rows = bare_rows(board.wide, board.high)
    for door in board.doors():
        rows[door_row(door)][door_place(door)] = board.sign(door)
    return "\n".join(["".join(row) for row in rows])


def read(text):
    rows = text.split("\n")
    wide = (len(rows[0]) + 1) // 2
    high = (len(rows) + 1) // 2
    # Mirrors stand at doors alone, so a drawing without its mirrors is the drawing of a new board.
    if not is_size(wide, high) or without_mirrors(text) != shown(Board(wide, high)):
        raise NoDrawing("the text is no drawing of a board")
    placed = [(door, rows[door_row(door)][door_place(door)]) for door in Board(wide, high).doors()]
    return with_signs(wide, high, placed)


def rebuilt(wide, high, found):
    steps = steps_along(found)
    placed = [(door, sign_stepped_over(steps, door)) for door in Board(wide, high).doors()]
    return with_signs(wide, high, placed)


def bare_rows(wide, high):
    dots = "o" + ".o" * (wide - 1)
    doors = "." + "+." * (wide - 1)
    return [list(dots if row % 2 == 0 else doors) for row in range(2 * high - 1)]


def door_row(door):
    return 2 * door[2] + (1 if door[0] == "column" else 0)


def door_place(door):
    return 2 * door[1] + (1 if door[0] == "row" else 0)


def without_mirrors(text):
    return text.replace("|", NO_MIRROR).replace("-", NO_MIRROR)


def steps_along(found):
    steps = {}
    for line in found:
        for place, quarter in enumerate(line):
            # The first step of a line is level, so the steps to its odd places are.
            level = place % 2 == 1
            steps[(quarter, level)] = line[place - 1]
            steps[(line[place - 1], level)] = quarter
    return steps


def sign_stepped_over(steps, door):
    # The south-east quarter of its dot lies at a door to the east and at one to the south.
    quarter = (door[1], door[2], 2)
    other = steps[(quarter, door[0] == "row")]
    return sign_that_turns(quarter[2], other[2])
