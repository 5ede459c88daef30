"""Boards that several tests walk over, and what they ask of each of them."""

import itertools

from sandline.board import Board

SIGNS = (".", "|", "-")
SIZES = (
    (1, 1), (2, 1), (1, 2), (4, 1), (1, 4), (12, 1), (1, 12), (2, 2), (3, 2), (2, 3), (3, 3), (4, 4), (5, 5), (6, 6),
    (12, 3), (3, 12), (9, 4), (4, 9), (7, 5), (5, 7),
)


def signs_of(board):
    return [(door, board.sign(door)) for door in board.doors()]


def looks(board):
    return (board.wide, board.high, signs_of(board))


def signed(wide, high, signs):
    board = Board(wide, high)
    for door, sign in zip(board.doors(), signs, strict=True):
        board = board.changed(door, sign)
    return board


def mixed(wide, high, step):
    doors = range(len(Board(wide, high).doors()))
    return signed(wide, high, [SIGNS[(place * place + step * place + step) % 3] for place in doors])


def sparse(wide, high, step):
    doors = range(len(Board(wide, high).doors()))
    return signed(wide, high, [SIGNS[place % 2 + 1] if place % 5 == step else "." for place in doors])


def filled(wide, high, sign):
    return signed(wide, high, [sign] * len(Board(wide, high).doors()))


def boards_of(wide, high):
    yield Board(wide, high)
    for step in range(3):
        yield sparse(wide, high, step)
        yield mixed(wide, high, step)
    yield filled(wide, high, "|")
    yield filled(wide, high, "-")
    doors = Board(wide, high).doors()
    for turn in range(2):
        yield signed(wide, high, [SIGNS[(place + turn) % 2 + 1] for place in range(len(doors))])
    # Every dot walled in by itself, which makes the most lines; and mirrors along the ways from dot to dot.
    yield signed(wide, high, ["|" if door[0] == "row" else "-" for door in doors])
    yield signed(wide, high, ["-" if door[0] == "row" else "|" for door in doors])


def some_boards():
    for wide, high in SIZES:
        yield from boards_of(wide, high)


def one_mirror(wide, high):
    board = Board(wide, high)
    for door in board.doors():
        for sign in ("|", "-"):
            yield board.changed(door, sign)


def every_board(wide, high):
    for signs in itertools.product(SIGNS, repeat=len(Board(wide, high).doors())):
        yield signed(wide, high, signs)


def all_boards():
    yield from some_boards()
    for wide, high in ((2, 1), (1, 2), (2, 2), (3, 2), (2, 3)):
        yield from every_board(wide, high)
    for wide, high in ((4, 4), (12, 3), (3, 12), (9, 4), (7, 5)):
        yield from one_mirror(wide, high)


def order(quarter):
    return (quarter[1], quarter[0], quarter[2])


def quarters(board):
    found = [(c, r, k) for c in range(board.wide) for r in range(board.high) for k in range(4)]
    return sorted(found, key=order)
