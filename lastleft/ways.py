"""What can come of a board, and in how many ways. Nothing that is handed in here is checked."""

from lastleft.boards import board_after, wipings_of


def boards_after_one_more(ways):
    """What one wiping more makes of boards, each told with in how many ways it comes."""
    further = {}
    for board, many in ways.items():
        for wiping in wipings_of(board):
            left = tuple(sorted(board_after(list(board), wiping)))
            further[left] = further.get(left, 0) + many
    return further


def boards_after(board, many):
    """The unlike boards that so many wipings come to, each with how many lists of wipings come to it."""
    # The turn of the numbers changes the places of a wiping, but not how many wipings there are nor what they leave:
    # so alike boards are taken as one, with their numbers rising.
    ways = {tuple(sorted(board)): 1}
    for step in range(many):
        ways = boards_after_one_more(ways)
    return ways


def ways_to_leave(board):
    """Each number that can be left, with how many lists of wipings leave it."""
    ways = boards_after(board, len(board) - 1)
    # Of no numbers at all, which are no board, nothing is left.
    return {left[0]: ways[left] for left in ways if len(left) == 1}


def wipings_to_leave(board, last):
    """Wipings of the board, in its turn, that leave the number, or None where it can't be left."""
    if len(board) == 1:
        return [] if board[0] == last else None
    for wiping in wipings_of(board):
        further = wipings_to_leave(board_after(board, wiping), last)
        if further is not None:
            return [wiping] + further
    return None
