"""What a board and a wiping of it are, and the board that a wiping leaves."""

import inspect
import itertools
import unittest

from lastleft import boards
from lastleft.boards import wiped
from lastleft.errors import BadBoard, BadWiping
from tests.helper import BOARDS, FAR_NUMBERS, GREATEST, NO_BOARDS, NO_NUMBERS, NO_PAIRS, expected, places_of


class WipedTest(unittest.TestCase):
    def test_it_stands_in_its_file_with_the_listed_arguments(self):
        self.assertEqual(wiped.__module__, "lastleft.boards")
        self.assertIs(boards.wiped, wiped)
        self.assertEqual(list(inspect.signature(wiped).parameters), ["board", "wiping"])
        self.assertEqual(wiped(wiping=(0, 1), board=[3, 8]), [5])

    def test_the_difference_stands_behind_the_others_in_their_turn(self):
        self.assertEqual(wiped([3, 8], (0, 1)), [5])
        self.assertEqual(wiped([9, 4, 7], (0, 1)), [7, 5])
        self.assertEqual(wiped([9, 4, 7], (0, 2)), [4, 2])
        self.assertEqual(wiped([9, 4, 7], (1, 2)), [9, 3])
        self.assertEqual(wiped([1, 10, 100, 1000], (0, 3)), [10, 100, 999])
        self.assertEqual(wiped([1, 10, 100, 1000], (1, 2)), [1, 1000, 90])
        self.assertEqual(wiped([2, 3, 5, 7, 11], (1, 3)), [2, 5, 11, 4])
        self.assertEqual(wiped([64, 1, 32, 2, 16, 4], (2, 5)), [64, 1, 2, 16, 28])

    def test_the_difference_is_never_below_0(self):
        self.assertEqual(wiped([8, 3], (0, 1)), [5])
        self.assertEqual(wiped([3, 8], (0, 1)), [5])
        self.assertEqual(wiped([8, 8], (0, 1)), [0])
        self.assertEqual(wiped([0, 8], (0, 1)), [8])
        self.assertEqual(wiped([8, 0], (0, 1)), [8])
        self.assertEqual(wiped([0, 0], (0, 1)), [0])

    def test_the_least_and_the_greatest_number(self):
        self.assertEqual(wiped([0, GREATEST], (0, 1)), [GREATEST])
        self.assertEqual(wiped([GREATEST, 0], (0, 1)), [GREATEST])
        self.assertEqual(wiped([GREATEST, GREATEST], (0, 1)), [0])
        self.assertEqual(wiped([GREATEST, 1, 0], (0, 1)), [0, 999999])

    def test_the_first_two_and_the_last_two_places(self):
        board = [64, 1, 32, 2, 16, 4]
        self.assertEqual(wiped(board, (0, 1)), [32, 2, 16, 4, 63])
        self.assertEqual(wiped(board, (4, 5)), [64, 1, 32, 2, 12])
        self.assertEqual(wiped([9, 4, 7], (0, 1)), [7, 5])
        self.assertEqual(wiped([9, 4, 7], (1, 2)), [9, 3])

    def test_each_wiping_of_each_board(self):
        for board in BOARDS:
            for wiping in places_of(board):
                with self.subTest(board=board, wiping=wiping):
                    left = wiped(list(board), wiping)
                    self.assertEqual(left, expected(board, wiping))
                    self.assertIs(type(left), list)
                    self.assertEqual({type(number) for number in left}, {int})

    def test_each_wiping_of_small_boards_of_each_length(self):
        for many, greatest in ((1, 9), (2, 9), (3, 5), (4, 3), (5, 2), (6, 1)):
            for numbers in itertools.product(range(greatest + 1), repeat=many):
                for wiping in places_of(numbers):
                    self.assertEqual(wiped(list(numbers), wiping), expected(numbers, wiping))

    def test_wipings_go_on_till_one_number_is_left(self):
        board = [64, 1, 32, 2, 16, 4]
        for wiping, left in (
            ((0, 2), [1, 2, 16, 4, 32]),
            ((2, 4), [1, 2, 4, 16]),
            ((0, 1), [4, 16, 1]),
            ((0, 1), [1, 12]),
            ((0, 1), [11]),
        ):
            board = wiped(board, wiping)
            self.assertEqual(board, left)

    def test_what_is_told_is_new_and_what_is_handed_in_stays(self):
        for board in BOARDS:
            for wiping in places_of(board):
                with self.subTest(board=board, wiping=wiping):
                    given = list(board)
                    left = wiped(given, wiping)
                    self.assertIsNot(left, given)
                    self.assertEqual(given, board)
                    self.assertIsNot(wiped(given, wiping), left)

    def test_a_told_list_may_be_changed(self):
        board = [9, 4, 7]
        left = wiped(board, (0, 2))
        left.append(1)
        left[0] = "changed"
        self.assertEqual(board, [9, 4, 7])
        self.assertEqual(wiped(board, (0, 2)), [4, 2])
        left.clear()
        self.assertEqual(wiped(board, (0, 2)), [4, 2])

    def test_the_board_handed_in_is_not_kept(self):
        board = [9, 4, 7]
        left = wiped(board, (0, 2))
        board[1] = 5
        self.assertEqual(left, [4, 2])
        self.assertEqual(wiped(board, (0, 2)), [5, 2])
        board.append(6)
        self.assertEqual(wiped(board, (0, 2)), [5, 6, 2])


class RefusalTest(unittest.TestCase):
    def refused(self, kind, board, wiping):
        with self.assertRaises(kind) as held:
            wiped(board, wiping)
        self.assertIs(type(held.exception), kind)

    def test_what_is_no_list_of_1_to_6_is_no_board(self):
        for at, board in enumerate(NO_BOARDS):
            with self.subTest(at=at):
                self.refused(BadBoard, board, (0, 1))

    def test_a_board_with_what_is_no_number_is_no_board(self):
        for board in BOARDS:
            for at in range(len(board)):
                for wrong, thing in enumerate(NO_NUMBERS):
                    with self.subTest(board=board, at=at, wrong=wrong):
                        self.refused(BadBoard, board[:at] + [thing] + board[at + 1:], (0, 1))

    def test_a_board_with_a_number_out_of_bounds_is_no_board(self):
        for board in BOARDS:
            for at in range(len(board)):
                for far, number in enumerate(FAR_NUMBERS):
                    with self.subTest(board=board, at=at, far=far):
                        self.refused(BadBoard, board[:at] + [number] + board[at + 1:], (0, 1))

    def test_what_is_no_tuple_of_two_is_no_wiping(self):
        for board in BOARDS:
            for at, wiping in enumerate(NO_PAIRS):
                with self.subTest(board=board, at=at):
                    self.refused(BadWiping, board, wiping)

    def test_places_that_are_no_numbers(self):
        for board in BOARDS:
            for wrong, thing in enumerate(NO_NUMBERS):
                with self.subTest(board=board, wrong=wrong):
                    self.refused(BadWiping, board, (thing, 1))
                    self.refused(BadWiping, board, (0, thing))
                    self.refused(BadWiping, board, (thing, thing))
            self.refused(BadWiping, board, (False, True))

    def test_places_of_no_board(self):
        for board in BOARDS:
            many = len(board)
            for wiping in (
                (-1, 0), (-2, -1), (-1, many - 1), (-many, many - 1),
                (0, many), (many - 1, many), (many, many + 1), (0, many + 1), (0, GREATEST),
            ):
                with self.subTest(board=board, wiping=wiping):
                    self.refused(BadWiping, board, wiping)
            self.refused(BadWiping, board, (0, 10 ** 5000))
            self.refused(BadWiping, board, (-10 ** 5000, 0))

    def test_places_that_are_alike_or_the_greater_first(self):
        for board in BOARDS:
            for first in range(len(board)):
                for second in range(first + 1):
                    with self.subTest(board=board, wiping=(first, second)):
                        self.refused(BadWiping, board, (first, second))

    def test_a_board_of_one_number_has_no_wiping(self):
        for number in (0, 5, GREATEST):
            for wiping in itertools.product(range(-2, 3), repeat=2):
                with self.subTest(number=number, wiping=wiping):
                    self.refused(BadWiping, [number], wiping)

    def test_where_both_are_wrong_the_board_is_told(self):
        for at, board in enumerate(NO_BOARDS + ([True, 1], [1, None], [-1, 1], [1, GREATEST + 1])):
            for wrong, wiping in enumerate(NO_PAIRS + ((0, 0), (1, 0), (-1, 0), (0, 9), (False, True))):
                with self.subTest(at=at, wrong=wrong):
                    self.refused(BadBoard, board, wiping)

    def test_what_is_refused_stays_as_it_was(self):
        board = [9, 4, 7]
        wiping = [0, 1]
        self.refused(BadWiping, board, wiping)
        self.assertEqual((board, wiping), ([9, 4, 7], [0, 1]))
        wrong = [9, None, 7]
        self.refused(BadBoard, wrong, (0, 1))
        self.assertEqual(wrong, [9, None, 7])
        self.assertEqual(wiped(board, (0, 1)), [7, 5])


if __name__ == "__main__":
    unittest.main()
