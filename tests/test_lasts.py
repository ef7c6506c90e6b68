"""What can be left of a board, in how many ways, by which wipings, and how many boards come on the way."""

import inspect
import itertools
import unittest

from lastleft import lasts as module
from lastleft.answers import Led, Never
from lastleft.errors import BadBoard, BadCount, BadLast
from lastleft.lasts import boards_behind, how_many, lasts, led
from tests.helper import (
    BOARDS, FAR_NUMBERS, GREATEST, NO_BOARDS, NO_NUMBERS, places_of, played, unlike_boards, ways, within,
)

# How many numbers, and the greatest of them, of the small boards that are all gone through.
SMALL = ((1, 9), (2, 6), (3, 4), (4, 2), (5, 1))
UNLIKE = [999983, 777777, 31337, 424242, 100003, 5]
BEYOND = (GREATEST + 1, 2 ** 64, 10 ** 5000)
NO_LASTS = NO_NUMBERS + (-1, -2, -GREATEST, -10 ** 5000)
WRONG_BOARDS = NO_BOARDS + ([True, 1], [1, None], [1, "2"], [[1], 2], [-1, 1], [1, GREATEST + 1], [10 ** 5000])


def small_boards():
    for many, greatest in SMALL:
        for numbers in itertools.product(range(greatest + 1), repeat=many):
            yield list(numbers)


class InterfaceTest(unittest.TestCase):
    def test_each_stands_in_its_file_with_the_listed_arguments(self):
        for door, arguments in (
            (lasts, ["board"]), (how_many, ["board", "last"]), (led, ["board", "last"]),
            (boards_behind, ["board", "many"]),
        ):
            self.assertEqual(door.__module__, "lastleft.lasts")
            self.assertIs(getattr(module, door.__name__), door)
            self.assertEqual(list(inspect.signature(door).parameters), arguments)

    def test_arguments_by_name(self):
        self.assertEqual(lasts(board=[3, 8]), [5])
        self.assertEqual(how_many(last=5, board=[3, 8]), 1)
        self.assertEqual(led(last=5, board=[3, 8]).wipings, [(0, 1)])
        self.assertEqual(boards_behind(many=1, board=[3, 8]), 1)


class LastsTest(unittest.TestCase):
    def test_written_out(self):
        self.assertEqual(lasts([5]), [5])
        self.assertEqual(lasts([0]), [0])
        self.assertEqual(lasts([3, 8]), [5])
        self.assertEqual(lasts([8, 8]), [0])
        self.assertEqual(lasts([9, 4, 7]), [2, 6])
        self.assertEqual(lasts([7, 7, 7]), [7])
        self.assertEqual(lasts([0, GREATEST]), [GREATEST])
        self.assertEqual(lasts([1, 2, 3, 4]), [0, 2, 4])
        self.assertEqual(lasts([1, 2, 3, 4, 5, 6]), [1, 3, 5])
        self.assertEqual(lasts([0] * 6), [0])
        self.assertEqual(lasts([GREATEST] * 6), [0])

    def test_all_are_told_rising_of_each_board(self):
        for board in BOARDS + (UNLIKE,):
            with self.subTest(board=board):
                told = lasts(list(board))
                self.assertIs(type(told), list)
                self.assertEqual({type(number) for number in told}, {int})
                self.assertEqual(told, sorted(ways(board)))

    def test_small_boards(self):
        for board in small_boards():
            self.assertEqual(lasts(list(board)), sorted(ways(board)))

    def test_they_are_even_as_all_together_and_no_greater_than_the_greatest(self):
        for board in BOARDS + (UNLIKE,):
            for last in lasts(list(board)):
                self.assertEqual(last % 2, sum(board) % 2)
                self.assertTrue(0 <= last <= max(board))

    def test_the_turn_of_the_numbers_is_nothing_to_it(self):
        for numbers in itertools.permutations([1, 10, 100, 1000]):
            self.assertEqual(lasts(list(numbers)), lasts([1, 10, 100, 1000]))

    def test_what_is_told_is_new_and_what_is_handed_in_stays(self):
        board = [9, 4, 7]
        told = lasts(board)
        told.append(1)
        told[0] = "changed"
        self.assertEqual(board, [9, 4, 7])
        self.assertEqual(lasts(board), [2, 6])
        self.assertIsNot(lasts(board), lasts(board))
        one = [5]
        self.assertIsNot(lasts(one), one)
        board[1] = 5
        self.assertEqual(lasts(board), [3, 7])


class HowManyTest(unittest.TestCase):
    def test_written_out(self):
        self.assertEqual(how_many([5], 5), 1)
        self.assertEqual(how_many([5], 4), 0)
        self.assertEqual(how_many([3, 8], 5), 1)
        self.assertEqual(how_many([3, 8], 11), 0)
        self.assertEqual(how_many([9, 4, 7], 2), 2)
        self.assertEqual(how_many([9, 4, 7], 6), 1)
        self.assertEqual(how_many([9, 4, 7], 4), 0)
        self.assertEqual(how_many([7, 7, 7], 7), 3)
        self.assertEqual(how_many([0] * 6, 0), 2700)
        self.assertEqual(how_many([GREATEST] * 6, 0), 2700)
        self.assertEqual(how_many([GREATEST] * 6, GREATEST), 0)

    def test_each_number_of_each_board(self):
        for board in BOARDS + (UNLIKE,):
            counts = ways(board)
            for last in itertools.chain(range(20), counts, [max(board) + 1, GREATEST]):
                with self.subTest(board=board, last=last):
                    told = how_many(list(board), last)
                    self.assertIs(type(told), int)
                    self.assertEqual(told, counts[last])

    def test_small_boards(self):
        for board in small_boards():
            counts = ways(board)
            for last in range(max(board) + 2):
                self.assertEqual(how_many(list(board), last), counts[last])

    def test_a_number_of_any_size(self):
        for board in BOARDS:
            for last in BEYOND:
                self.assertEqual(how_many(list(board), last), 0)

    def test_what_is_handed_in_stays(self):
        board = [9, 4, 7]
        how_many(board, 2)
        self.assertEqual(board, [9, 4, 7])


class LedTest(unittest.TestCase):
    def check(self, board, last, can):
        given = list(board)
        answer = led(given, last)
        self.assertEqual(given, board)
        if not can:
            self.assertIs(type(answer), Never)
        else:
            self.assertIs(type(answer), Led)
            self.assertIs(type(answer.wipings), list)
            self.assertEqual(len(answer.wipings), len(board) - 1)
            self.assertEqual(played(board, answer.wipings), [last])
            for wiping in answer.wipings:
                self.assertEqual([type(place) for place in wiping], [int, int])
        self.assertIs(answer.shows(given, last), True)

    def test_each_number_of_each_board(self):
        for board in BOARDS + (UNLIKE,):
            can = ways(board)
            for last in itertools.chain(range(20), can, [max(board) + 1, GREATEST]):
                with self.subTest(board=board, last=last):
                    self.check(board, last, last in can)

    def test_small_boards(self):
        for board in small_boards():
            can = ways(board)
            for last in range(max(board) + 2):
                self.check(board, last, last in can)

    def test_the_wipings_are_of_the_board_in_its_own_turn(self):
        for numbers in itertools.permutations([1, 10, 100, 1000, 5]):
            board = list(numbers)
            for last in lasts(board):
                self.assertEqual(played(board, led(board, last).wipings), [last])

    def test_a_board_of_one_number(self):
        self.assertEqual(led([5], 5).wipings, [])
        self.assertIs(type(led([5], 4)), Never)
        self.assertEqual(led([0], 0).wipings, [])

    def test_a_number_of_any_size(self):
        for board in BOARDS:
            for last in BEYOND:
                self.check(board, last, False)

    def test_what_is_told_is_new(self):
        board = [9, 4, 7]
        answer = led(board, 6)
        answer.wipings.clear()
        self.assertEqual(played(board, led(board, 6).wipings), [6])
        self.assertIsNot(led(board, 6), led(board, 6))
        self.assertIsNot(led([5], 5).wipings, led([5], 5).wipings)

    def test_the_board_handed_in_is_not_kept(self):
        board = [9, 4, 7]
        answer = led(board, 6)
        board.clear()
        self.assertEqual(played([9, 4, 7], answer.wipings), [6])


class BoardsBehindTest(unittest.TestCase):
    def test_written_out(self):
        self.assertEqual(boards_behind([5], 0), 1)
        self.assertEqual(boards_behind([3, 8], 0), 1)
        self.assertEqual(boards_behind([3, 8], 1), 1)
        self.assertEqual(boards_behind([9, 4, 7], 1), 3)
        self.assertEqual(boards_behind([9, 4, 7], 2), 2)
        self.assertEqual(boards_behind([7, 7, 7], 1), 1)
        self.assertEqual(boards_behind([0, 5, 0, 5], 1), 2)
        self.assertEqual([boards_behind([0] * 6, many) for many in range(6)], [1] * 6)

    def test_boards_with_the_same_numbers_in_another_turn_are_one(self):
        # Of 1, 2, 1 both wipings of a 1 and the 2 leave two ones, that of both ones leaves 2 and 0.
        self.assertEqual(boards_behind([1, 2, 1], 1), 2)
        self.assertEqual(boards_behind([5, 0, 5], 1), 2)

    def test_boards_with_the_same_numbers_unlike_often_are_two(self):
        # 1, 1, 3 and 1, 3, 3 are both among the boards behind: the numbers of both are 1 and 3.
        self.assertEqual(boards_behind([1, 2, 3, 3], 1), 4)
        self.assertEqual(boards_behind([2, 4, 6, 6], 1), 4)

    def test_each_count_of_each_board(self):
        for board in BOARDS + (UNLIKE,):
            for many in range(len(board)):
                with self.subTest(board=board, many=many):
                    told = boards_behind(list(board), many)
                    self.assertIs(type(told), int)
                    self.assertEqual(told, unlike_boards(board, many))

    def test_small_boards(self):
        for board in small_boards():
            for many in range(len(board)):
                self.assertEqual(boards_behind(list(board), many), unlike_boards(board, many))

    def test_the_last_count_tells_how_many_numbers_can_be_left(self):
        for board in BOARDS:
            self.assertEqual(boards_behind(list(board), 0), 1)
            self.assertEqual(boards_behind(list(board), len(board) - 1), len(lasts(list(board))))

    def test_what_is_handed_in_stays(self):
        board = [9, 4, 7]
        boards_behind(board, 2)
        self.assertEqual(board, [9, 4, 7])


class RefusalTest(unittest.TestCase):
    def refused(self, kind, door, *handed):
        with self.assertRaises(kind) as held:
            door(*handed)
        self.assertIs(type(held.exception), kind)

    def each_door_refuses(self, board):
        self.refused(BadBoard, lasts, board)
        self.refused(BadBoard, how_many, board, 1)
        self.refused(BadBoard, led, board, 1)
        self.refused(BadBoard, boards_behind, board, 0)

    def test_what_is_no_board(self):
        for at, board in enumerate(WRONG_BOARDS):
            with self.subTest(at=at):
                self.each_door_refuses(board)

    def test_a_board_with_what_is_no_number_of_a_board(self):
        for board in BOARDS:
            for at in range(len(board)):
                for wrong, thing in enumerate(NO_NUMBERS + FAR_NUMBERS):
                    with self.subTest(board=board, at=at, wrong=wrong):
                        self.each_door_refuses(board[:at] + [thing] + board[at + 1:])

    def test_what_is_no_number_from_0_on(self):
        for board in BOARDS:
            for at, last in enumerate(NO_LASTS):
                with self.subTest(board=board, at=at):
                    self.refused(BadLast, how_many, list(board), last)
                    self.refused(BadLast, led, list(board), last)

    def test_what_is_no_count_of_wipings(self):
        for board in BOARDS:
            many = len(board)
            wrong = NO_NUMBERS + (-1, -many, many, many + 1, 6, 7, GREATEST, 10 ** 5000, -10 ** 5000)
            for at, count in enumerate(wrong):
                with self.subTest(board=board, at=at):
                    self.refused(BadCount, boards_behind, list(board), count)

    def test_where_both_are_wrong_the_board_is_told(self):
        for at, board in enumerate(WRONG_BOARDS):
            for wrong, thing in enumerate(NO_LASTS):
                with self.subTest(at=at, wrong=wrong):
                    self.refused(BadBoard, how_many, board, thing)
                    self.refused(BadBoard, led, board, thing)
                    self.refused(BadBoard, boards_behind, board, thing)
            self.refused(BadBoard, boards_behind, board, 7)

    def test_what_is_refused_stays_as_it_was(self):
        board, wrong, last = [9, 4, 7], [9, None, 7], [2]
        self.refused(BadLast, how_many, board, last)
        self.refused(BadLast, led, board, last)
        self.refused(BadCount, boards_behind, board, last)
        self.each_door_refuses(wrong)
        self.assertEqual((board, wrong, last), ([9, 4, 7], [9, None, 7], [2]))


class TimeTest(unittest.TestCase):
    def test_a_board_of_six_unlike_numbers_is_asked_for_everything(self):
        with within(30):
            can = lasts(UNLIKE)
            self.assertEqual(sum(how_many(UNLIKE, last) for last in can), 2700)
            for last in can:
                self.assertEqual(played(UNLIKE, led(UNLIKE, last).wipings), [last])
            self.assertIs(type(led(UNLIKE, GREATEST)), Never)
            self.assertEqual([boards_behind(UNLIKE, many) for many in range(6)], [1, 15, 85, 195, 148, 16])


if __name__ == "__main__":
    unittest.main()
