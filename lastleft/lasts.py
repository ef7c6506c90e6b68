"""Which numbers can be left of a board, in how many ways, by which wipings, and how many boards come on the way."""

from lastleft.answers import Led, Never
from lastleft.boards import check_board, is_number
from lastleft.errors import BadCount, BadLast
from lastleft.ways import boards_after, ways_to_leave, wipings_to_leave


def check_last(last):
    """Refuse what is no number that may be asked for."""
    if not is_number(last) or last < 0:
        raise BadLast("the number to be left is a number from 0 on")


def lasts(board):
    """All numbers that can be left of the board, rising."""
    check_board(board)
    return sorted(ways_to_leave(board))


def how_many(board, last):
    """How many lists of wipings leave the number."""
    check_board(board)
    check_last(last)
    return ways_to_leave(board).get(last, 0)


def led(board, last):
    """Wipings that leave the number, as a Led, or a Never where it can't be left."""
    check_board(board)
    check_last(last)
    wipings = wipings_to_leave(board, last)
    if wipings is None:
        return Never()
    return Led(wipings)


def boards_behind(board, many):
    """How many unlike boards so many wipings of the board come to."""
    check_board(board)
    if not is_number(many) or not 0 <= many < len(board):
        raise BadCount("a count of wipings is a number from 0 to one less than there are numbers")
    return len(boards_after(board, many))
