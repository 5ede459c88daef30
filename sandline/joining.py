"""Changes that leave one single line."""

from sandline.board import SIGNS
from sandline.walking import lines, met_at


# A change makes two lines one, or one line two, or leaves their number as it is: fewer changes than the lines less one
# are never enough. Where two lines meet at a door, any other sign makes them one. Two quarters side by side round a
# dot are on one line or meet at a door, and the doors lead from dot to dot: behind the last door all lines are one.
def joined(board):
    changes = []
    line_of = numbered(lines(board))
    for door in board.doors():
        meeting = [line_of[quarter] for quarter in met_at(door)]
        if min(meeting) != max(meeting):
            changes.append((door, other_sign(board.sign(door))))
            renumber(line_of, max(meeting), min(meeting))
    return changes


def numbered(found):
    line_of = {}
    for number, line in enumerate(found):
        for quarter in line:
            line_of[quarter] = number
    return line_of


def renumber(line_of, old, new):
    for quarter in list(line_of):
        if line_of[quarter] == old:
            line_of[quarter] = new


def other_sign(sign):
    return [other for other in SIGNS if other != sign][0]
