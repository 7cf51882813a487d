import itertools
import random
import unittest

from helper import only_told_kinds, only_tuples_and_numbers, some_sounds
from soundroad.parity import healed, rebuilt, summed

# Each row: rows of sounds, and their sum as worked out by hand.
WRITTEN_OUT = (
    (((),), ()),
    (((), (), ()), ()),
    (((5,),), (5,)),
    (((-1000, 0, 1000),), (-1000, 0, 1000)),
    (((0,), (0,)), (1000,)),
    (((0,), (1,)), (-1000,)),
    (((0,), (0,), (0,)), (-1,)),
    (((1000,), (1000,)), (999,)),
    (((1000,), (1000,), (1000,)), (998,)),
    (((-1000,), (-1000,)), (-1000,)),
    (((-1000,), (1000,)), (1000,)),
    (((-1000,), (7,), (-1000,)), (7,)),
    (((-1, 2, -3), (4, -5, 6)), (-998, 997, -998)),
    (((1000, -1000), (1, 0), (0, 1)), (1000, -1000)),
)


def some_field(source, height, width, size):
    return tuple(tuple(some_sounds(source, size) for j in range(width)) for k in range(height))


def sums_of(field):
    across = tuple(summed(row) for row in field)
    down = tuple(summed(tuple(row[j] for row in field)) for j in range(len(field[0])))
    return across, down


def without(field, places):
    return tuple(tuple(None if (k, j) in places else piece for j, piece in enumerate(row))
                 for k, row in enumerate(field))


def places_of(field):
    return [(k, j) for k in range(len(field)) for j in range(len(field[0]))]


def left_lost(places):
    left = list(places)
    for place in places * len(places):
        alone_across = [other for other in left if other[0] == place[0]] == [place]
        alone_down = [other for other in left if other[1] == place[1]] == [place]
        if alone_across or alone_down:
            left.remove(place)
    return left


class Summed(unittest.TestCase):
    def test_written_out(self):
        for rows, total in WRITTEN_OUT:
            self.assertEqual(summed(rows), total, rows)

    def test_the_sum_is_a_row_of_sounds_with_the_right_rest(self):
        source = random.Random(31)
        for many in range(1, 30):
            size = source.randrange(17)
            rows = tuple(some_sounds(source, size) for k in range(many))
            total = summed(rows)
            self.assertEqual(len(total), size)
            for place in range(size):
                self.assertTrue(-1000 <= total[place] <= 1000, rows)
                levels = sum(row[place] + 1000 for row in rows)
                self.assertEqual((levels - total[place] - 1000) % 2001, 0, rows)

    def test_the_order_of_rows_is_all_one(self):
        rows = ((1, 2), (-1000, 1000), (500, -7))
        self.assertEqual(len({summed(order) for order in itertools.permutations(rows)}), 1)

    def test_what_lies_beyond_the_bounds_is_not_refused(self):
        self.assertEqual(summed(((0,) * 17, (0,) * 17)), (1000,) * 17)
        self.assertEqual(summed(((1001,),)), (-1000,))
        self.assertEqual(summed(()), ())

    def test_told_is_a_tuple_and_what_is_handed_in_stays(self):
        rows = ((1, -2), (1000, -1000))
        told = summed(rows)
        self.assertTrue(only_tuples_and_numbers(told))
        self.assertEqual(rows, ((1, -2), (1000, -1000)))
        self.assertEqual(summed(rows), told)


class Rebuilt(unittest.TestCase):
    def test_of_no_rows_the_sum_itself(self):
        for total in ((), (5,), (-1000, 0, 1000)):
            self.assertEqual(rebuilt((), total), total)

    def test_written_out(self):
        for rows, total, sounds in (
            (((0,),), (1000,), (0,)),
            (((0,),), (-1000,), (1,)),
            (((1000,),), (999,), (1000,)),
            (((1000,),), (-1000,), (-999,)),
            (((-1000,), (-1000,)), (-7,), (-7,)),
            (((0,), (0,)), (0,), (1,)),
            (((),), (), ()),
            (((-1, 2, -3),), (-998, 997, -998), (4, -5, 6)),
        ):
            self.assertEqual(rebuilt(rows, total), sounds, (rows, total))

    def test_each_row_comes_back_of_all_others_and_the_sum(self):
        source = random.Random(32)
        drawn = [tuple(some_sounds(source, turn % 17) for k in range(1 + turn % 6)) for turn in range(120)]
        for rows in drawn + [rows for rows, total in WRITTEN_OUT]:
            total = summed(rows)
            for k in range(len(rows)):
                self.assertEqual(rebuilt(rows[:k] + rows[k + 1:], total), rows[k], rows)

    def test_whatever_the_sum_what_is_rebuilt_has_it(self):
        source = random.Random(33)
        for turn in range(100):
            size = source.randrange(17)
            rows = tuple(some_sounds(source, size) for k in range(turn % 7))
            total = some_sounds(source, size)
            sounds = rebuilt(rows, total)
            self.assertTrue(all(-1000 <= sound <= 1000 for sound in sounds))
            self.assertEqual(summed(rows + (sounds,)), total)

    def test_told_is_a_tuple_and_what_is_handed_in_stays(self):
        rows, total = ((1, -2), (1000, -1000)), (3, 4)
        told = rebuilt(rows, total)
        self.assertTrue(only_tuples_and_numbers(told))
        self.assertEqual((rows, total), (((1, -2), (1000, -1000)), (3, 4)))
        self.assertEqual(rebuilt(rows, total), told)


class Healed(unittest.TestCase):
    def assert_healed(self, field, lost, left):
        across, down = sums_of(field)
        damaged = without(field, lost)
        before = without(field, lost)
        told = healed(damaged, across, down)
        self.assertEqual(told, without(field, left), lost)
        self.assertEqual(damaged, before)
        self.assertTrue(only_told_kinds(told))
        self.assertEqual(healed(damaged, across, down), told)
        self.assertEqual(healed(told, across, down), told)

    def test_written_out(self):
        # The sums: (1,) and (2,) go up to 2003, which is 2 and -998; and so on.
        across, down = ((-998,), (-994,)), ((-997,), (-995,))
        whole = (((1,), (2,)), ((3,), (4,)))
        self.assertEqual(healed(whole, across, down), whole)
        self.assertEqual(healed((((1,), None), ((3,), (4,))), across, down), whole)
        self.assertEqual(healed(((None, None), (None, (4,))), across, down), whole)
        self.assertEqual(healed(((None, None), (None, None)), across, down), ((None, None), (None, None)))

    def test_none_one_two_or_any_three_lost(self):
        source = random.Random(34)
        for height, width in ((1, 1), (1, 2), (1, 5), (2, 1), (5, 1), (2, 2), (2, 3), (3, 2), (3, 3), (4, 4), (3, 6)):
            field = some_field(source, height, width, source.randrange(1, 4))
            for many in range(4):
                for lost in itertools.combinations(places_of(field), many):
                    self.assert_healed(field, lost, ())

    def test_one_row_alone_comes_back_by_its_columns_and_one_column_by_its_rows(self):
        source = random.Random(35)
        for height, width in ((1, 9), (9, 1)):
            field = some_field(source, height, width, 16)
            self.assert_healed(field, places_of(field), ())

    def test_of_a_square_of_four_none_comes_back(self):
        field = some_field(random.Random(36), 4, 5, 2)
        for rows in itertools.combinations(range(4), 2):
            for columns in itertools.combinations(range(5), 2):
                square = [(k, j) for k in rows for j in columns]
                self.assert_healed(field, square, square)

    def test_four_that_are_no_square_come_back(self):
        field = some_field(random.Random(37), 3, 3, 2)
        for lost in itertools.combinations(places_of(field), 4):
            if left_lost(list(lost)) == []:
                self.assert_healed(field, lost, ())
        self.assert_healed(field, [(0, 0), (0, 1), (1, 1), (2, 2)], ())

    def test_beside_a_square_the_others_come_back(self):
        field = some_field(random.Random(38), 4, 5, 2)
        square = [(1, 1), (1, 3), (2, 1), (2, 3)]
        self.assert_healed(field, square + [(0, 0), (3, 4)], square)
        # Alone in its column though not in its row, and the other way round.
        self.assert_healed(field, square + [(1, 0), (0, 1)], square)

    def test_all_lost(self):
        for height, width in ((2, 2), (2, 3), (4, 4)):
            field = some_field(random.Random(39), height, width, 3)
            self.assert_healed(field, places_of(field), places_of(field))

    def test_a_whole_row_or_column_lost(self):
        field = some_field(random.Random(40), 4, 5, 3)
        self.assert_healed(field, [(2, j) for j in range(5)], ())
        self.assert_healed(field, [(k, 4) for k in range(4)], ())
        self.assert_healed(field, [(2, j) for j in range(5)] + [(k, 4) for k in range(4)], ())

    def test_pieces_that_come_back_only_after_others_did(self):
        # A stair: only its ends are alone, and each piece waits for its neighbour.
        field = some_field(random.Random(41), 7, 7, 2)
        stair = [(k, k) for k in range(7)] + [(k, k + 1) for k in range(6)]
        self.assert_healed(field, stair, ())
        self.assert_healed(field, [(6 - k, j) for k, j in stair], ())
        self.assert_healed(field, [(k, 6 - j) for k, j in stair], ())
        # The stair closed to a ring has no end, so nothing comes back.
        self.assert_healed(field, stair + [(6, 0)], stair + [(6, 0)])

    def test_pieces_of_no_sounds(self):
        field = (((), ()), ((), ()))
        self.assert_healed(field, [(0, 0), (0, 1), (1, 1)], ())
        self.assert_healed(field, places_of(field), places_of(field))

    def test_whatever_is_lost(self):
        source = random.Random(42)
        for turn in range(300):
            field = some_field(source, source.randint(1, 6), source.randint(1, 6), source.randrange(4))
            lost = [place for place in places_of(field) if source.randrange(10) < turn % 8]
            self.assert_healed(field, lost, left_lost(lost))


if __name__ == "__main__":
    unittest.main()
