"""The two answers, and whether each shows what it stands for."""

import inspect
import itertools
import unittest

from lastleft import answers
from lastleft.answers import Answer, Led, Never
from tests.helper import BOARDS, GREATEST, lists_of_wipings, places_of, played, ways, within

BEYOND = (2 ** 64, 10 ** 5000)


def led_lists(board):
    """For each number that can be left one list of wipings that leaves it."""
    lists = {}
    for wipings, left in lists_of_wipings(board, len(board) - 1):
        lists.setdefault(left[0], wipings)
    return lists


class KindsTest(unittest.TestCase):
    def test_the_classes_hang_together_as_listed(self):
        self.assertEqual(Answer.__bases__, (object,))
        self.assertEqual(Never.__bases__, (Answer,))
        self.assertEqual(Led.__bases__, (Answer,))
        for kind in (Answer, Never, Led):
            self.assertEqual(kind.__module__, "lastleft.answers")
            self.assertIs(getattr(answers, kind.__name__), kind)

    def test_shows_stands_in_each_class_itself_with_the_listed_arguments(self):
        for kind in (Never, Led):
            self.assertIn("shows", vars(kind))
            self.assertEqual(list(inspect.signature(kind.shows).parameters), ["self", "board", "last"])
        self.assertEqual(list(inspect.signature(Led).parameters), ["wipings"])
        self.assertEqual(list(inspect.signature(Never).parameters), [])
        self.assertIs(Led(wipings=[(0, 1)]).shows(last=5, board=[3, 8]), True)
        self.assertIs(Never().shows(last=4, board=[3, 8]), True)

    def test_the_field_is_a_copy_of_the_list(self):
        for wipings in ([], [(0, 1)], [(0, 1), (0, 1)], [(5, -3)], [(10 ** 5000, 0)] * 9):
            given = list(wipings)
            answer = Led(given)
            self.assertIs(type(answer.wipings), list)
            self.assertEqual(answer.wipings, wipings)
            self.assertIsNot(answer.wipings, given)
            given.append((7, 8))
            self.assertEqual(answer.wipings, wipings)
            answer.wipings.append((1, 2))
            self.assertEqual(given, wipings + [(7, 8)])

    def test_two_answers_share_no_list(self):
        first = Led([(0, 1)])
        second = Led(first.wipings)
        first.wipings.clear()
        self.assertEqual(second.wipings, [(0, 1)])


class NeverTest(unittest.TestCase):
    def test_it_shows_just_the_numbers_that_cannot_be_left(self):
        for board in BOARDS:
            can = ways(board)
            numbers = set(range(40)) | set(range(GREATEST - 3, GREATEST + 3)) | set(can)
            for last in sorted(numbers | {number + 1 for number in can}):
                with self.subTest(board=board, last=last):
                    self.assertIs(Never().shows(list(board), last), last not in can)

    def test_written_out(self):
        self.assertIs(Never().shows([5], 5), False)
        self.assertIs(Never().shows([5], 0), True)
        self.assertIs(Never().shows([3, 8], 5), False)
        self.assertIs(Never().shows([3, 8], 11), True)
        self.assertIs(Never().shows([9, 4, 7], 2), False)
        self.assertIs(Never().shows([9, 4, 7], 4), True)
        self.assertIs(Never().shows([9, 4, 7], 20), True)
        self.assertIs(Never().shows([0, GREATEST], GREATEST), False)

    def test_small_boards(self):
        for many, greatest in ((1, 5), (2, 5), (3, 4), (4, 3)):
            for numbers in itertools.product(range(greatest + 1), repeat=many):
                can = ways(numbers)
                for last in range(greatest * 2 + 2):
                    self.assertIs(Never().shows(list(numbers), last), last not in can)

    def test_a_number_of_any_size(self):
        for board in BOARDS:
            for at, last in enumerate(BEYOND):
                with self.subTest(board=board, at=at):
                    self.assertIs(Never().shows(list(board), last), True)

    def test_nothing_is_changed(self):
        board = [9, 4, 7]
        Never().shows(board, 2)
        Never().shows(board, 3)
        self.assertEqual(board, [9, 4, 7])


class LedTest(unittest.TestCase):
    def test_wipings_that_leave_the_number_show_it_and_no_other(self):
        for board in BOARDS:
            lists = led_lists(board)
            for left, wipings in lists.items():
                for last in {left, left + 1, left + 2, abs(left - 1), abs(left - 2)} | set(lists):
                    with self.subTest(board=board, last=last, wipings=wipings):
                        self.assertIs(Led(wipings).shows(list(board), last), last == left)
                for last in BEYOND:
                    self.assertIs(Led(wipings).shows(list(board), last), False)

    def test_written_out(self):
        self.assertIs(Led([(0, 2), (0, 1)]).shows([9, 4, 7], 2), True)
        self.assertIs(Led([(0, 2), (0, 1)]).shows([9, 4, 7], 4), False)
        self.assertIs(Led([(0, 1), (0, 1)]).shows([9, 4, 7], 2), True)
        self.assertIs(Led([(1, 2), (0, 1)]).shows([9, 4, 7], 6), True)
        self.assertIs(Led([(0, 2), (2, 4), (0, 1), (0, 1), (0, 1)]).shows([64, 1, 32, 2, 16, 4], 11), True)
        self.assertIs(Led([(0, 1)]).shows([GREATEST, 0], GREATEST), True)
        self.assertIs(Led([(0, 1)]).shows([GREATEST, GREATEST], 0), True)

    def test_a_board_of_one_number(self):
        self.assertIs(Led([]).shows([5], 5), True)
        self.assertIs(Led([]).shows([0], 0), True)
        self.assertIs(Led([]).shows([5], 4), False)
        self.assertIs(Led([]).shows([5], 0), False)
        self.assertIs(Led([(0, 0)]).shows([5], 5), False)
        self.assertIs(Led([(0, 1)]).shows([5], 5), False)
        self.assertIs(Led([(-1, 0)]).shows([5], 0), False)

    def test_every_list_of_pairs_over_small_boards(self):
        for board in ([3], [3, 8], [8, 8], [0, 0], [9, 4, 7], [0, 0, 0], [2, 0, 2]):
            many = len(board)
            pairs = list(itertools.product(range(-2, many + 2), repeat=2))
            for length in range(min(many, 2) + 1):
                for wipings in itertools.product(pairs, repeat=length):
                    left = played(board, wipings)
                    answer = Led(list(wipings))
                    for last in (0, 2, 3, 5, 6):
                        self.assertIs(answer.shows(list(board), last), left == [last])

    def test_one_wiping_that_is_none_shows_nothing(self):
        for board in BOARDS:
            for left, wipings in led_lists(board).items():
                for at in range(len(wipings)):
                    many = len(board) - at
                    first, second = wipings[at]
                    for wrong in (
                        (second, first), (first, first), (second, second), (-1, second), (first - many, second),
                        (first, second - many), (first - many, second - many), (first, many), (many, many + 1),
                        (0, 10 ** 5000), (-10 ** 5000, 0), (-1, 0), (0, 0),
                    ):
                        answer = Led(wipings[:at] + [wrong] + wipings[at + 1:])
                        for last in (left, 0, 1, max(board)):
                            self.assertIs(answer.shows(list(board), last), False)

    def test_too_few_and_too_many_wipings_show_nothing(self):
        for board in BOARDS:
            for left, wipings in led_lists(board).items():
                for more in ([(0, 1)], [(0, 0)], [(-1, 0)], [(0, 1), (0, 1)], wipings + [(0, 1)]):
                    self.assertIs(Led(wipings + more).shows(list(board), left), False)
                    self.assertIs(Led(more + wipings).shows(list(board), left), False)
                for fewer in range(len(wipings)):
                    for last in [left] + board:
                        self.assertIs(Led(wipings[:fewer]).shows(list(board), last), False)

    def test_very_many_wipings_show_nothing(self):
        self.assertIs(Led([(0, 1)] * 100000).shows([9, 4, 7], 2), False)

    def test_the_field_is_read_as_it_stands_then(self):
        answer = Led([(0, 2), (0, 1)])
        self.assertIs(answer.shows([9, 4, 7], 2), True)
        answer.wipings[0] = (1, 2)
        self.assertIs(answer.shows([9, 4, 7], 2), False)
        self.assertIs(answer.shows([9, 4, 7], 6), True)
        answer.wipings.append((0, 1))
        self.assertIs(answer.shows([9, 4, 7], 6), False)
        answer.wipings.pop()
        self.assertIs(answer.shows([9, 4, 7], 6), True)
        answer.wipings = []
        self.assertIs(answer.shows([9, 4, 7], 6), False)
        self.assertIs(answer.shows([6], 6), True)
        answer.wipings = [(0, 1)]
        self.assertIs(answer.shows([3, 8], 5), True)

    def test_nothing_is_changed_and_asking_twice_tells_the_same(self):
        board = [9, 4, 7]
        answer = Led([(0, 2), (0, 1)])
        for turn in range(2):
            self.assertIs(answer.shows(board, 2), True)
            self.assertIs(answer.shows(board, 3), False)
            self.assertEqual(board, [9, 4, 7])
            self.assertEqual(answer.wipings, [(0, 2), (0, 1)])

    def test_just_one_of_both_answers_shows_a_number(self):
        for board in BOARDS:
            lists = led_lists(board)
            for last in itertools.chain(range(20), lists):
                led = any(Led(wipings).shows(list(board), last) for wipings in lists.values())
                self.assertIs(led, not Never().shows(list(board), last))


class BeyondTest(unittest.TestCase):
    def test_somewhat_beyond_a_board_no_error_is_raised(self):
        with within(60):
            for board in ([], [1] * 7, [1, 2, 3, 4, 5, 6, 7], [GREATEST + 1, 3], [-1, 4]):
                for last in (0, 1, 5):
                    for answer in (Never(), Led([]), Led([(0, 1)] * (len(board) - 1)), Led([(0, 1)] * 7)):
                        self.assertIs(type(answer.shows(board, last)), bool)


if __name__ == "__main__":
    unittest.main()
