"""What the tests share: boards, what is none, and the answers found in the plainest way, without the program."""

import collections
import contextlib
import itertools
import signal

GREATEST = 1000000

# One board of each length, with no number twice, then boards with likes, with zeros, and at both bounds.
BOARDS = (
    [5],
    [3, 8],
    [9, 4, 7],
    [1, 10, 100, 1000],
    [2, 3, 5, 7, 11],
    [64, 1, 32, 2, 16, 4],
    [0],
    [GREATEST],
    [0, 0],
    [0, GREATEST],
    [GREATEST, 0],
    [7, 7, 7],
    [0, 5, 0, 5],
    [1, 2, 1, 2, 1],
    [0, GREATEST, 0, GREATEST, 1, 999999],
    [GREATEST] * 6,
    [0] * 6,
)

NO_NUMBERS = (True, False, "1", "", b"1", None, [1], [], (1,), (), {1: 1}, {1}, object(), int)

# Written out, the last two would be longer than Python is willing to write a number.
FAR_NUMBERS = (-1, -GREATEST, GREATEST + 1, 2 ** 64, 10 ** 5000, -10 ** 5000)

NO_BOARDS = (
    (), (1,), (1, 2), (1, 2, 3),
    "", "1", "12",
    b"", b"12",
    {}, {0: 1, 1: 2},
    set(), {1, 2}, frozenset((1, 2)),
    None, 0, 1, 12, True, False,
    range(3), object(), list, iter([1, 2]),
    [], [1] * 7, [0] * 8, [1] * 1000,
)

NO_PAIRS = (
    [0, 1], [0], [],
    (), (0,), (1,), (0, 1, 2), (0, 1, 2, 3), (0, 1, None), ((0, 1),), ((0, 1), (1, 2)),
    "01", "", b"01", b"\x00\x01", {0, 1}, {0: 1, 1: 2}, frozenset((0, 1)),
    None, 0, 1, True, False, range(2), object(), tuple, iter((0, 1)),
)


def places_of(board):
    """Each wiping of the board, made by itself."""
    return list(itertools.combinations(range(len(board)), 2))


def expected(board, wiping):
    """What a wiping leaves, said otherwise than the program says it."""
    left = list(board)
    greater = left.pop(wiping[1])
    lesser = left.pop(wiping[0])
    if greater < lesser:
        greater, lesser = lesser, greater
    left.append(greater - lesser)
    return left


def lists_of_wipings(board, many):
    """Each list of so many wipings of the board, with the board that it comes to."""
    if many == 0:
        yield [], list(board)
        return
    for wiping in places_of(board):
        for further, left in lists_of_wipings(expected(board, wiping), many - 1):
            yield [wiping] + further, left


def ways(board):
    """Each number that can be left, with how many lists of wipings leave it, each list gone through by itself."""
    return collections.Counter(left[0] for wipings, left in lists_of_wipings(board, len(board) - 1))


def unlike_boards(board, many):
    """How many unlike boards so many wipings come to."""
    return len({tuple(sorted(left)) for wipings, left in lists_of_wipings(board, many)})


def played(board, wipings):
    """The board that is left at the end, or None where one of the wipings is none."""
    left = list(board)
    for wiping in wipings:
        if type(wiping) is not tuple or wiping not in places_of(left):
            return None
        left = expected(left, wiping)
    return left


@contextlib.contextmanager
def within(seconds):
    """Fail what takes longer."""
    def late(number, frame):
        raise AssertionError("no answer came within %d seconds" % seconds)

    before = signal.signal(signal.SIGALRM, late)
    signal.alarm(seconds)
    try:
        yield
    finally:
        signal.alarm(0)
        signal.signal(signal.SIGALRM, before)
