import random
import unittest

from helper import only_tuples_and_numbers
from soundroad.errors import BadBytes
from soundroad.packing import packed, unpacked

# Each row: number, sounds, and the bytes as worked out by hand.
WRITTEN_OUT = (
    (0, (), (0, 0, 0, 0, 0)),
    (255, (), (0, 255, 0, 0, 253)),
    (256, (), (1, 0, 0, 0, 1)),
    (258, (), (1, 2, 0, 0, 5)),
    (65535, (), (255, 255, 0, 0, 251)),
    (0, (0,), (0, 0, 1, 3, 232, 0, 147)),
    (0, (-1000,), (0, 0, 1, 0, 0, 0, 3)),
    (0, (1000,), (0, 0, 1, 7, 208, 0, 43)),
    (1, (-1000, 0, 1000), (0, 1, 3, 0, 0, 3, 232, 7, 208, 0, 240)),
    (0, (-1000,) * 16, (0, 0, 16) + (0, 0) * 16 + (0, 48)),
    (0, (0,) * 16, (0, 0, 16) + (3, 232) * 16 + (0, 156)),
    # The check is 256, the highest there is.
    (128, (), (0, 128, 0, 1, 0)),
    (382, (-1000,), (1, 126, 1, 0, 0, 1, 0)),
)


def with_check(row):
    check = 0
    for k in range(len(row)):
        check += (k + 1) * row[k]
    check %= 257
    return tuple(row) + (check // 256, check % 256)


def pieces(seed, many):
    source = random.Random(seed)
    told = [(number, sounds) for number, sounds, row in WRITTEN_OUT]
    for turn in range(many):
        sounds = [source.choice((-1000, 0, 1000, source.randint(-1000, 1000))) for k in range(turn % 17)]
        told.append((source.choice((0, 255, 256, 65535, source.randrange(65536))), tuple(sounds)))
    return told


class Packed(unittest.TestCase):
    def test_written_out(self):
        for number, sounds, row in WRITTEN_OUT:
            self.assertEqual(packed(number, sounds), row)

    def test_told_is_a_tuple_of_bytes_and_what_is_handed_in_stays(self):
        for number, sounds in pieces(21, 40):
            before = tuple(list(sounds))
            row = packed(number, sounds)
            self.assertTrue(only_tuples_and_numbers(row))
            self.assertTrue(all(0 <= byte <= 255 for byte in row))
            self.assertEqual(len(row), 5 + 2 * len(sounds))
            self.assertEqual(sounds, before)
            self.assertEqual(packed(number, sounds), row)

    def test_what_lies_beyond_the_bounds_is_not_refused(self):
        self.assertEqual(packed(0, (-1000,) * 17), (0, 0, 17) + (0, 0) * 17 + (0, 51))
        self.assertEqual(packed(0, (1001,)), with_check((0, 0, 1, 7, 209)))
        for number, sounds in ((65536, ()), (-1, ()), (0, (-1001,))):
            self.assertTrue(only_tuples_and_numbers(packed(number, sounds)))


class Unpacked(unittest.TestCase):
    def assert_refused(self, row):
        with self.assertRaises(BadBytes, msg=row) as met:
            unpacked(row)
        self.assertIs(type(met.exception), BadBytes)

    def test_written_out(self):
        for number, sounds, row in WRITTEN_OUT:
            self.assertEqual(unpacked(row), (number, sounds))

    def test_a_piece_comes_back_of_its_bytes(self):
        for number, sounds in pieces(22, 200):
            self.assertEqual(unpacked(packed(number, sounds)), (number, sounds))

    def test_each_number_comes_back(self):
        for number in range(65536):
            self.assertEqual(unpacked(packed(number, ())), (number, ()))

    def test_each_sound_comes_back(self):
        for sound in range(-1000, 1001):
            self.assertEqual(unpacked(packed(9, (sound,))), (9, (sound,)))

    def test_told_is_a_pair_and_what_is_handed_in_stays(self):
        for number, sounds, row in WRITTEN_OUT:
            before = tuple(list(row))
            told = unpacked(row)
            self.assertTrue(only_tuples_and_numbers(told))
            self.assertEqual(len(told), 2)
            self.assertEqual(row, before)
            self.assertEqual(unpacked(row), told)

    def test_no_bytes_and_too_few(self):
        self.assert_refused(())
        for number, sounds, row in WRITTEN_OUT:
            for size in range(len(row)):
                self.assert_refused(row[:size])

    def test_too_few_with_the_check_made_right(self):
        for row in ((), (0,), (0, 0), (1, 2)):
            self.assert_refused(with_check(row))

    def test_too_many(self):
        for number, sounds, row in WRITTEN_OUT:
            for more in ((0,), (0, 0), (3, 232), (0,) * 20, row[-2:]):
                self.assert_refused(row + more)
                self.assert_refused(more + row)
        for size in (6, 100, 255, 256, 299, 300, 301):
            self.assert_refused((0,) * size)

    def test_a_count_that_does_not_fit_the_bytes(self):
        for many in range(17):
            for count in range(256):
                row = with_check((1, 2, count) + (3, 232) * many)
                if count == many:
                    self.assertEqual(unpacked(row), (258, (0,) * many))
                else:
                    self.assert_refused(row)

    def test_half_a_sound_with_the_check_made_right(self):
        self.assert_refused(with_check((0, 0, 0, 3)))
        self.assert_refused(with_check((0, 0, 1, 3)))
        self.assert_refused(with_check((0, 0, 1, 3, 232, 3)))
        self.assert_refused(with_check((0, 0, 2, 3, 232, 3)))

    def test_a_count_above_16(self):
        for count in (17, 18, 100, 147):
            self.assert_refused(with_check((0, 0, count) + (3, 232) * count))

    def test_a_sound_above_1000_with_the_check_made_right(self):
        for high, low in ((7, 209), (7, 255), (8, 0), (255, 255)):
            self.assert_refused(with_check((0, 0, 1, high, low)))
            for place in range(16):
                pairs = [(3, 232)] * 16
                pairs[place] = (high, low)
                self.assert_refused(with_check((0, 0, 16) + sum(pairs, ())))

    def test_a_wrong_check(self):
        for number, sounds, row in WRITTEN_OUT:
            right = row[-2] * 256 + row[-1]
            for check in range(257):
                if check != right:
                    self.assert_refused(row[:-2] + (check // 256, check % 256))

    def test_the_right_check_and_a_round_or_more(self):
        for number, sounds, row in WRITTEN_OUT:
            right = row[-2] * 256 + row[-1]
            for check in range(right + 257, 65536, 257):
                self.assert_refused(row[:-2] + (check // 256, check % 256))

    def test_one_byte_changed(self):
        for number, sounds in pieces(23, 17):
            row = packed(number, sounds)
            for place in range(len(row)):
                for byte in range(256):
                    if byte != row[place]:
                        self.assert_refused(row[:place] + (byte,) + row[place + 1:])

    def test_two_unlike_neighbours_exchanged(self):
        for number, sounds in pieces(24, 170):
            self.assert_exchanges_refused(packed(number, sounds))
        # With no sounds, the count stands beside the check.
        for number in range(0, 65536, 7):
            self.assert_exchanges_refused(packed(number, ()))

    def assert_exchanges_refused(self, row):
        for place in range(len(row) - 1):
            if row[place] != row[place + 1]:
                self.assert_refused(row[:place] + (row[place + 1], row[place]) + row[place + 2:])

    def test_two_pieces_put_together(self):
        rows = [packed(number, sounds) for number, sounds in pieces(25, 17)]
        for one in rows:
            for other in rows:
                self.assert_refused(one + other)

    def test_numbers_that_are_no_bytes(self):
        for row in ((0, 256, 0), (256, 0, 0), (1, -1, 0), (-1, 255, 0), (0, 0, -1),
                    (0, 0, 1, 2, 488), (0, 0, 1, 4, -24), (0, 0, 1, 0, -1)):
            self.assert_refused(with_check(row))
        self.assert_refused((0, 128, 0, 0, 256))
        self.assert_refused((1, 2, 0, 1, -251))


if __name__ == "__main__":
    unittest.main()
