"""The two answers to whether a number can be left, and whether they are so."""

from lastleft.boards import board_after, is_wiping
from lastleft.ways import ways_to_leave


class Answer:
    """What is told of a board and a number."""


class Never(Answer):
    """The number can't be left."""

    def shows(self, board, last):
        """Whether the number can't be left of the board."""
        return last not in ways_to_leave(board)


class Led(Answer):
    """Wipings that leave the number."""

    def __init__(self, wipings):
        self.wipings = list(wipings)

    def shows(self, board, last):
        """Whether the wipings are wipings of the board, each of it as it is then, and leave the number alone."""
        if len(self.wipings) != len(board) - 1:
            return False
        left = list(board)
        for wiping in self.wipings:
            if not is_wiping(left, wiping):
                return False
            left = board_after(left, wiping)
        return left == [last]
