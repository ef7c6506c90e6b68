"""Boards of numbers, and the board that a wiping of one leaves."""

from lastleft.errors import BadBoard, BadWiping

MOST_NUMBERS = 6
GREATEST_NUMBER = 1000000


def is_number(thing):
    """Whether the thing is a whole number."""
    # Python counts True and False as integers; the document does not.
    return isinstance(thing, int) and not isinstance(thing, bool)


def is_board_number(thing):
    """Whether the thing is a number that may stand on a board."""
    return is_number(thing) and 0 <= thing <= GREATEST_NUMBER


def is_board(thing):
    """Whether the thing is a board."""
    if not isinstance(thing, list) or not 1 <= len(thing) <= MOST_NUMBERS:
        return False
    return all([is_board_number(one) for one in thing])


def check_board(thing):
    """Refuse what is no board."""
    # No message shows what was handed in: Python refuses to write out a very long number.
    if not is_board(thing):
        raise BadBoard("a board is a list of 1 to 6 numbers from 0 to 1000000")


def is_wiping(board, thing):
    """Whether the thing is a wiping of the board."""
    if not isinstance(thing, tuple) or len(thing) != 2:
        return False
    first, second = thing
    if not is_number(first) or not is_number(second):
        return False
    return 0 <= first < second < len(board)


def wipings_of(board):
    """Each wiping of the board."""
    many = len(board)
    return [(first, second) for first in range(many) for second in range(first + 1, many)]


def board_after(board, wiping):
    """The board, a new list, that a wiping leaves of a board, neither of them checked."""
    first, second = wiping
    others = board[:first] + board[first + 1:second] + board[second + 1:]
    return others + [abs(board[first] - board[second])]


def wiped(board, wiping):
    """The board, a new list, that the wiping leaves of the board."""
    check_board(board)
    if not is_wiping(board, wiping):
        raise BadWiping("a wiping is a pair of two places of the board, the lesser first")
    return board_after(board, wiping)
