import random
import unittest

from helper import only_tuples_and_numbers
from soundroad.numbers import near, rolled, unrolled

LASTS = (0, 1, -1, 32767, 32768, 32769, -32767, -32768, -32769, 65535, 65536, 65537, -65536,
         100000, -100000, 10 ** 9 + 7, -(10 ** 9) - 7, 10 ** 30 + 1, -(10 ** 30) - 1)


class Near(unittest.TestCase):
    def test_written_out(self):
        for last, short, number in (
            (0, 0, 0), (0, 1, 1), (0, 65535, -1), (0, 32767, 32767), (0, 32768, -32768),
            (65535, 0, 65536), (65535, 65534, 65534), (65536, 65535, 65535),
            (-1, 65535, -1), (-1, 0, 0), (-1, 32767, -32769), (-65536, 5, -65531),
            (32768, 0, 0), (32768, 65535, 65535), (32769, 0, 65536), (40000, 40000, 40000),
            (1000000, 16960, 1000000), (1000000, 16959, 999999), (1000000, 0, 983040),
            (-1000000, 48576, -1000000), (-1000000, 48577, -999999), (-1000000, 0, -983040),
        ):
            self.assertEqual(near(last, short), number, (last, short))

    def test_the_lowest_one(self):
        for last in LASTS:
            self.assertEqual(near(last, (last - 32768) % 65536), last - 32768, last)

    def test_the_highest_one(self):
        for last in LASTS:
            self.assertEqual(near(last, (last + 32767) % 65536), last + 32767, last)

    def test_one_beyond_the_lowest_is_the_highest(self):
        for last in LASTS:
            self.assertEqual(near(last, (last - 32769) % 65536), last + 32767, last)

    def test_one_beyond_the_highest_is_the_lowest(self):
        for last in LASTS:
            self.assertEqual(near(last, (last + 32768) % 65536), last - 32768, last)

    def test_its_rest_and_its_bounds(self):
        source = random.Random(11)
        for last in LASTS:
            for short in [0, 1, 32767, 32768, 65535] + [source.randrange(65536) for k in range(200)]:
                number = near(last, short)
                self.assertEqual(number % 65536, short, (last, short))
                self.assertLessEqual(last - 32768, number, (last, short))
                self.assertLessEqual(number, last + 32767, (last, short))

    def test_each_short_number_means_one_of_the_bounds(self):
        for last in (-70000, 0, 12345):
            told = sorted(near(last, short) for short in range(65536))
            self.assertEqual(told, list(range(last - 32768, last + 32768)))

    def test_told_is_a_whole_number(self):
        self.assertIs(type(near(0, 65535)), int)
        self.assertEqual(near(7, 8), near(7, 8))


class Unrolled(unittest.TestCase):
    def test_none_and_one(self):
        self.assertEqual(unrolled(()), ())
        for short in (0, 5, 32768, 40000, 65535):
            self.assertEqual(unrolled((short,)), (short,))

    def test_upwards_through_rounds(self):
        self.assertEqual(unrolled((65534, 65535, 0, 1)), (65534, 65535, 65536, 65537))
        self.assertEqual(unrolled((0, 30000, 60000, 24464, 54464, 18928, 48928)),
                         (0, 30000, 60000, 90000, 120000, 150000, 180000))

    def test_downwards_through_rounds(self):
        self.assertEqual(unrolled((1, 0, 65535, 65534)), (1, 0, -1, -2))
        self.assertEqual(unrolled((0, 35536, 5536, 41072, 11072, 46608)),
                         (0, -30000, -60000, -90000, -120000, -150000))

    def test_up_and_down_again(self):
        self.assertEqual(unrolled((65535, 1, 65535, 65535, 2)), (65535, 65537, 65535, 65535, 65538))

    def test_the_longest_steps(self):
        self.assertEqual(unrolled((0, 32767, 65534, 32765)), (0, 32767, 65534, 98301))
        self.assertEqual(unrolled((0, 32768, 0, 32768)), (0, -32768, -65536, -98304))
        self.assertEqual(unrolled((7, 32774, 6)), (7, 32774, 6))

    def test_told_is_a_tuple_and_what_is_handed_in_stays(self):
        shorts = (65535, 0, 40000)
        told = unrolled(shorts)
        self.assertTrue(only_tuples_and_numbers(told))
        self.assertTrue(only_tuples_and_numbers(unrolled(())))
        self.assertEqual(shorts, (65535, 0, 40000))
        self.assertEqual(unrolled(shorts), told)


class Rolled(unittest.TestCase):
    def test_none_one_and_many(self):
        self.assertEqual(rolled(()), ())
        self.assertEqual(rolled((65536,)), (0,))
        self.assertEqual(rolled((0, 65535, 65537, -1, -65536, -65537, 1000000, -1000000)),
                         (0, 65535, 1, 65535, 0, 65535, 16960, 48576))

    def test_told_is_a_tuple_and_what_is_handed_in_stays(self):
        longs = (-1, 70000)
        told = rolled(longs)
        self.assertTrue(only_tuples_and_numbers(told))
        self.assertTrue(only_tuples_and_numbers(rolled(())))
        self.assertEqual(longs, (-1, 70000))
        self.assertEqual(rolled(longs), told)


class ThereAndBack(unittest.TestCase):
    def longs_of(self, first, steps):
        longs = [first]
        for step in steps:
            longs.append(longs[-1] + step)
        return tuple(longs)

    def test_none(self):
        self.assertEqual(unrolled(rolled(())), ())

    def test_long_numbers_come_back(self):
        source = random.Random(12)
        for first in (0, 1, 32767, 32768, 65535):
            for turn in range(40):
                steps = [source.choice((-32768, 32767, 0, 1, -1, source.randint(-32768, 32767)))
                         for k in range(source.randrange(60))]
                longs = self.longs_of(first, steps)
                self.assertEqual(unrolled(rolled(longs)), longs)

    def test_the_longest_steps_alone_come_back(self):
        for first in (0, 65535):
            for step in (-32768, 32767):
                longs = self.longs_of(first, [step] * 30)
                self.assertEqual(unrolled(rolled(longs)), longs)

    def test_short_numbers_come_back(self):
        source = random.Random(13)
        for turn in range(40):
            shorts = tuple(source.randrange(65536) for k in range(turn))
            self.assertEqual(rolled(unrolled(shorts)), shorts)


if __name__ == "__main__":
    unittest.main()
