import random
import unittest
from fractions import Fraction
from math import gcd

from helper import only_tuples_and_numbers, some_rows
from soundroad.clocks import line_under, straight
from soundroad.errors import NoLine

# Each row: rows of times, slope, height, and how much each row lies above, as worked out by hand.
WRITTEN_OUT = (
    (((0, 5), (10, 25)), (2, 1), (5, 1), (0, 0)),
    (((10, 25), (0, 5)), (2, 1), (5, 1), (0, 0)),
    (((0, 0), (1, 5), (2, 0)), (0, 1), (0, 1), (0, 5, 0)),
    (((0, 7), (4, 7)), (0, 1), (7, 1), (0, 0)),
    (((0, 0), (6, 4)), (2, 3), (0, 1), (0, 0)),
    (((1, 1), (4, 2), (2, 2)), (1, 3), (2, 3), (0, 0, 1)),
    (((1, -1), (3, -2), (2, 0)), (-1, 2), (-1, 2), (0, 0, 2)),
    (((-3, 2), (4, -1)), (-3, 7), (5, 7), (0, 0)),
    (((-5, -7), (-2, -8)), (-1, 3), (-26, 3), (0, 0)),
    # All on one line.
    (((0, 1), (1, 3), (2, 5), (3, 7)), (2, 1), (1, 1), (0, 0, 0, 0)),
    # The same pair thrice, and a single other one.
    (((0, 1), (0, 1), (0, 1), (2, 4)), (3, 2), (1, 1), (0, 0, 0, 0)),
    # Equal sent: only the lowest one holds the line down.
    (((0, 3), (0, 9), (2, 4), (2, 2)), (-1, 2), (3, 1), (0, 6, 2, 0)),
    # The mean meets the lowest corner, so many lines have the least sum; the least slope is told.
    (((0, 10), (1, 0), (2, 10)), (-10, 1), (10, 1), (0, 0, 20)),
    (((0, 0), (1, 0), (2, 10)), (0, 1), (0, 1), (0, 0, 10)),
    (((0, 10), (1, 0), (2, 0)), (-10, 1), (10, 1), (0, 0, 10)),
    # One row more on a side moves the mean past the corner, however high that row lies.
    (((0, 10), (1, 0), (2, 10), (2, 50)), (10, 1), (-10, 1), (20, 0, 0, 40)),
    (((0, 10), (1, 0), (2, 10), (0, 50)), (-10, 1), (10, 1), (0, 0, 20, 40)),
    (((0, 3), (3, 0), (4, 0), (9, 1), (10, 5)), (1, 5), (-4, 5), (4, 1, 0, 0, 4)),
    (((-1000000, 1000000), (1000000, -1000000), (0, 1000000)), (-1, 1), (0, 1), (0, 0, 1000000)),
    (((-1000000, -1000000), (999999, 1000000)), (2000000, 1999999), (1000000, 1999999), (0, 0)),
)
NO_LINE = ((), ((0, 0),), ((7, -3),), ((5, 1), (5, 2)), ((-4, 0), (-4, 0), (-4, 9)))


def exact(fraction):
    return Fraction(fraction[0], fraction[1])


def gaps(rows, slope, height):
    return [came - slope * sent - height for sent, came in rows]


def lines_through_two(rows):
    points = sorted(set(rows))
    told = []
    for one in points:
        for other in points:
            if one[0] < other[0]:
                slope = Fraction(other[1] - one[1], other[0] - one[0])
                told.append((slope, one[1] - slope * one[0]))
    return told


def best_line(rows):
    under = [line for line in lines_through_two(rows) if min(gaps(rows, line[0], line[1])) >= 0]
    return min(under, key=lambda line: (sum(gaps(rows, line[0], line[1])), line[0]))


def has_line(rows):
    return len({sent for sent, came in rows}) > 1


def drawn_rows(seed, many):
    source = random.Random(seed)
    drawn = [some_rows(source, source.randint(2, 12), source.choice((2, 5, 40, 1000000))) for k in range(many)]
    return [rows for rows in drawn if has_line(rows)]


class LineUnder(unittest.TestCase):
    def test_written_out(self):
        for rows, slope, height, above in WRITTEN_OUT:
            self.assertEqual(line_under(rows), (slope, height), rows)

    def test_no_line(self):
        for rows in NO_LINE:
            with self.assertRaises(NoLine, msg=rows) as met:
                line_under(rows)
            self.assertIs(type(met.exception), NoLine)

    def test_two_rows_the_line_through_both(self):
        source = random.Random(61)
        for turn in range(200):
            rows = some_rows(source, 2, source.choice((3, 1000000)))
            if has_line(rows):
                slope, height = line_under(rows)
                self.assertEqual(gaps(rows, exact(slope), exact(height)), [0, 0])

    def test_fractions_have_no_common_divisor_and_lower_above_0(self):
        for rows in drawn_rows(62, 300):
            for upper, lower in line_under(rows):
                self.assertGreater(lower, 0)
                self.assertEqual(gcd(upper, lower), 1)

    def test_no_line_through_two_rows_is_better(self):
        for rows in drawn_rows(63, 500):
            slope, height = line_under(rows)
            self.assertEqual((exact(slope), exact(height)), best_line(rows), rows)

    def test_no_line_at_all_is_nearer(self):
        source = random.Random(64)
        for rows in drawn_rows(65, 100):
            told, height = [exact(part) for part in line_under(rows)]
            least = sum(gaps(rows, told, height))
            self.assertGreaterEqual(min(gaps(rows, told, height)), 0)
            for turn in range(30):
                slope = told + Fraction(source.randint(-50, 50), source.randint(1, 50))
                highest = min(gaps(rows, slope, 0))
                other = sum(gaps(rows, slope, highest))
                self.assertGreaterEqual(other, least)
                if slope < told:
                    self.assertGreater(other, least)

    def test_the_order_of_rows_is_all_one(self):
        source = random.Random(66)
        for rows in drawn_rows(67, 50):
            mixed = tuple(source.sample(rows, len(rows)))
            self.assertEqual(line_under(mixed), line_under(rows))

    def test_told_is_pairs_and_what_is_handed_in_stays(self):
        for rows, slope, height, above in WRITTEN_OUT:
            before = tuple(list(rows))
            told = line_under(rows)
            self.assertTrue(only_tuples_and_numbers(told))
            self.assertEqual(rows, before)
            self.assertEqual(line_under(rows), told)


class Straight(unittest.TestCase):
    def test_written_out(self):
        for rows, slope, height, above in WRITTEN_OUT:
            self.assertEqual(straight(rows), above, rows)

    def test_no_line(self):
        for rows in NO_LINE:
            with self.assertRaises(NoLine, msg=rows) as met:
                straight(rows)
            self.assertIs(type(met.exception), NoLine)

    def test_the_next_whole_number_above_or_it(self):
        for rows in drawn_rows(68, 300):
            slope, height = best_line(rows)
            told = straight(rows)
            self.assertEqual(len(told), len(rows))
            for whole, gap in zip(told, gaps(rows, slope, height)):
                self.assertGreaterEqual(whole, gap)
                self.assertLess(whole - 1, gap)

    def test_told_is_a_tuple_and_what_is_handed_in_stays(self):
        rows = ((1, 1), (4, 2), (2, 2))
        told = straight(rows)
        self.assertTrue(only_tuples_and_numbers(told))
        self.assertEqual(rows, ((1, 1), (4, 2), (2, 2)))
        self.assertEqual(straight(rows), told)


if __name__ == "__main__":
    unittest.main()
