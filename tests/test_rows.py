"""What can be left of the numbers from 1 on, and by which wipings."""

import inspect
import itertools
import unittest

from lastleft import rows
from lastleft.errors import BadCount, BadLast, NeverLast
from lastleft.lasts import lasts
from lastleft.rows import row_bounds, row_led
from tests.helper import GREATEST, NO_NUMBERS, expected, played, ways, within

LONGEST = 60
VERY_GREAT = (10 ** 9, 2 ** 64, 10 ** 100, 10 ** 5000, 10 ** 100000)


def reached(many):
    """All that can be left of the numbers from 1 to many, every board on the way gone through."""
    boards = {tuple(range(1, many + 1))}
    for turn in range(many - 1):
        boards = {
            tuple(sorted(expected(board, places)))
            for board in boards for places in itertools.combinations(range(len(board)), 2)
        }
    return sorted(board[0] for board in boards)


def between(many):
    """All that can be left of a row as the point tells it, with the sum added up."""
    together = sum(range(1, many + 1))
    return [last for last in range(many + 1) if (together - last) % 2 == 0]


class InterfaceTest(unittest.TestCase):
    def test_each_stands_in_its_file_with_the_listed_arguments(self):
        for door, arguments in ((row_bounds, ["many"]), (row_led, ["many", "last"])):
            self.assertEqual(door.__module__, "lastleft.rows")
            self.assertIs(getattr(rows, door.__name__), door)
            self.assertEqual(list(inspect.signature(door).parameters), arguments)
        self.assertEqual(row_bounds(many=4), (0, 4))
        self.assertEqual(row_led(last=1, many=2), [(0, 1)])


class RowBoundsTest(unittest.TestCase):
    def test_written_out(self):
        for many, bounds in (
            (1, (1, 1)), (2, (1, 1)), (3, (0, 2)), (4, (0, 4)), (5, (1, 5)), (6, (1, 5)), (7, (0, 6)), (8, (0, 8)),
            (57, (1, 57)), (58, (1, 57)), (59, (0, 58)), (60, (0, 60)),
        ):
            self.assertEqual(row_bounds(many), bounds)

    def test_a_pair_of_numbers_is_told(self):
        for many in (1, 2, 3, 4, 60, 10 ** 5000):
            told = row_bounds(many)
            self.assertIs(type(told), tuple)
            self.assertEqual([type(number) for number in told], [int, int])

    def test_they_are_the_least_and_the_greatest_that_can_be_left(self):
        for many in range(1, 8):
            least, greatest = row_bounds(many)
            self.assertEqual(reached(many), list(range(least, greatest + 1, 2)))
            if many <= 6:
                self.assertEqual(sorted(ways(list(range(1, many + 1)))), reached(many))
                self.assertEqual(lasts(list(range(1, many + 1))), reached(many))

    def test_long_rows(self):
        for many in range(1, 300):
            can = between(many)
            self.assertEqual(row_bounds(many), (can[0], can[-1]))

    def test_very_great_numbers_at_once(self):
        with within(30):
            for great in VERY_GREAT:
                for many in range(great - 4, great + 5):
                    least = (many * (many + 1) // 2) % 2
                    self.assertTrue(row_bounds(many) == (least, many if many % 2 == least else many - 1))


class RowLedTest(unittest.TestCase):
    def test_written_out(self):
        self.assertEqual(row_led(1, 1), [])
        self.assertEqual(row_led(2, 1), [(0, 1)])

    def test_every_number_that_can_be_left_of_every_row(self):
        for many in range(1, LONGEST + 1):
            board = list(range(1, many + 1))
            for last in between(many):
                with self.subTest(many=many, last=last):
                    wipings = row_led(many, last)
                    self.assertIs(type(wipings), list)
                    self.assertEqual(len(wipings), many - 1)
                    self.assertEqual(played(board, wipings), [last])
                    self.assertEqual({type(place) for wiping in wipings for place in wiping} - {int}, set())

    def test_a_row_of_sixty_without_a_long_wait(self):
        with within(30):
            for last in range(0, LONGEST + 1, 2):
                self.assertEqual(len(row_led(LONGEST, last)), LONGEST - 1)

    def test_what_is_told_is_new(self):
        for many, last in ((1, 1), (2, 1), (3, 0), (4, 4), (60, 0), (60, 32)):
            told = row_led(many, last)
            self.assertIsNot(row_led(many, last), told)
            told.append((0, 0))
            told[0] = "changed"
            self.assertEqual(played(list(range(1, many + 1)), row_led(many, last)), [last])


class RefusalTest(unittest.TestCase):
    def refused(self, kind, door, *handed):
        with self.assertRaises(kind) as held:
            door(*handed)
        self.assertIs(type(held.exception), kind)

    def test_row_bounds_of_what_is_no_number_from_1_on(self):
        for at, many in enumerate(NO_NUMBERS + (0, -1, -2, -3, -4, -GREATEST, -10 ** 5000)):
            with self.subTest(at=at):
                self.refused(BadCount, row_bounds, many)

    def test_row_led_of_what_is_no_number_from_1_to_60(self):
        wrong = NO_NUMBERS + (0, -1, -4, -60, 61, 62, 63, 64, GREATEST, 10 ** 5000, -10 ** 5000)
        for at, many in enumerate(wrong):
            for last in (0, 1, 2, -1, 61, 10 ** 5000) + NO_NUMBERS:
                with self.subTest(at=at):
                    self.refused(BadCount, row_led, many, last)

    def test_a_last_that_is_no_number(self):
        for many in (1, 2, 3, 4, 60):
            for at, last in enumerate(NO_NUMBERS):
                with self.subTest(many=many, at=at):
                    self.refused(BadLast, row_led, many, last)

    def test_a_last_that_cannot_be_left(self):
        for many in range(1, LONGEST + 1):
            can = between(many)
            for last in range(-70, 130):
                if last not in can:
                    with self.subTest(many=many, last=last):
                        self.refused(NeverLast, row_led, many, last)
            for last in (GREATEST, GREATEST + 1, 10 ** 5000, 10 ** 5000 + 1, -GREATEST, -10 ** 5000, 1 - 10 ** 5000):
                self.refused(NeverLast, row_led, many, last)

    def test_what_is_refused_stays_as_it_was(self):
        wrong = [1]
        self.refused(BadCount, row_bounds, wrong)
        self.refused(BadCount, row_led, wrong, wrong)
        self.refused(BadLast, row_led, 4, wrong)
        self.assertEqual(wrong, [1])


if __name__ == "__main__":
    unittest.main()
