"""The shades of a board: dark and light by turns along each line."""

from sandline.walking import is_east, is_south, lines


def shades(board):
    rows = [[False] * (2 * board.wide) for row in range(2 * board.high)]
    for line in lines(board):
        for place, quarter in enumerate(line):
            rows[quarter_row(quarter)][quarter_place(quarter)] = place % 2 == 0
    return rows


def quarter_row(quarter):
    return 2 * quarter[1] + (1 if is_south(quarter[2]) else 0)


def quarter_place(quarter):
    return 2 * quarter[0] + (1 if is_east(quarter[2]) else 0)
