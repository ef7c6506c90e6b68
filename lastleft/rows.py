"""What can be left of the numbers from 1 on, and by which wipings."""

from lastleft.boards import is_number
from lastleft.errors import BadCount, BadLast, NeverLast

LONGEST_ROW = 60


def row_bounds(many):
    """The least and the greatest number that can be left of the numbers from 1 to the one handed in."""
    if not is_number(many) or many < 1:
        raise BadCount("a row is told by its last number, from 1 on")
    # All together are odd, odd, even, even, and so on, as the row grows from 1.
    least = 1 if many % 4 in (1, 2) else 0
    return least, many - (many - least) % 2


def can_be_left(many, last):
    """Whether the number can be left of the numbers from 1 to many."""
    least, greatest = row_bounds(many)
    return least <= last <= greatest and (last - least) % 2 == 0


def inner_row(many, last):
    """The last number of the row, within the row handed in, that is to leave its least so that all leaves the last."""
    # A row leaves `last`, above 0, if the row without its last number `many` leaves `many - last`, for then the wiping
    # of these two leaves `last`. What is asked for is thus taken from row to shorter row till it is 0 or 1.
    while last > 1:
        last = many - last
        many -= 1
    return many


def wipings_from(many, inner):
    """Wipings of the numbers from 1 to many that wipe the inner row to its least first, then go on through the rest."""
    # Neighbours of the inner row go, each pair for a 1 behind all others; if the row is odd its 1 stays in front.
    first = inner % 2
    wipings = [(first, first + 1)] * (inner // 2)
    left = many - inner // 2
    # Then those ones go, the last two at a time, till one number, 0 or 1, stands for them at the end.
    for turn in range(inner // 2 - 1):
        wipings.append((left - 2, left - 1))
        left -= 1
    # Then the numbers in front go with it one by one: first the 1, if it stayed, then those beyond the inner row.
    while left > 1:
        wipings.append((0, left - 1))
        left -= 1
    return wipings


def row_led(many, last):
    """Wipings of the board of the numbers from 1 to many, in their order, that leave the last."""
    if not is_number(many) or not 1 <= many <= LONGEST_ROW:
        raise BadCount("a row is told by its last number, from 1 to 60")
    if not is_number(last):
        raise BadLast("the number to be left is a number")
    if not can_be_left(many, last):
        raise NeverLast("the number can't be left")
    return wipings_from(many, inner_row(many, last))
