"""The lines of a board: where a quarter leads, and which quarters hang together."""

# A sign turns a corner alike at both kinds of door: an upright mirror changes north and south about,
# a level one west and east, and without a mirror both are changed.
TURNS = {".": (2, 3, 0, 1), "|": (3, 2, 1, 0), "-": (1, 0, 3, 2)}


def led(board, quarter, level):
    sign = sign_beside(board, quarter, level)
    dot = quarter
    if sign != wall(level):
        dot = neighbour(quarter, level)
    return (dot[0], dot[1], TURNS[sign][quarter[2]])


def lines(board):
    found = []
    seen = {}
    for first in quarters(board):
        if first not in seen:
            line = line_from(board, first)
            for quarter in line:
                seen[quarter] = True
            found.append(line)
    return found


def line_from(board, first):
    line = [first]
    level = True
    quarter = led(board, first, level)
    while quarter != first:
        line.append(quarter)
        level = not level
        quarter = led(board, quarter, level)
    return line


def quarters(board):
    found = []
    for row in range(board.high):
        for column in range(board.wide):
            found.extend([(column, row, corner) for corner in range(4)])
    return found


def wall(level):
    return "|" if level else "-"


# The board's rim turns a line back just as a mirror along it would.
def sign_beside(board, quarter, level):
    other = neighbour(quarter, level)
    if not (0 <= other[0] < board.wide and 0 <= other[1] < board.high):
        return wall(level)
    kind = "row" if level else "column"
    return board.sign((kind, min(quarter[0], other[0]), min(quarter[1], other[1])))


def neighbour(quarter, level):
    column = quarter[0]
    row = quarter[1]
    corner = quarter[2]
    if level:
        return (column + 1 if is_east(corner) else column - 1, row)
    return (column, row + 1 if is_south(corner) else row - 1)


def is_east(corner):
    return corner in (1, 2)


def is_south(corner):
    return corner in (2, 3)


def met_at(door):
    column = door[1]
    row = door[2]
    if door[0] == "row":
        return [(column, row, 1), (column, row, 2), (column + 1, row, 0), (column + 1, row, 3)]
    return [(column, row, 3), (column, row, 2), (column, row + 1, 0), (column, row + 1, 1)]


def sign_that_turns(corner, other):
    return [sign for sign in TURNS if TURNS[sign][corner] == other][0]
