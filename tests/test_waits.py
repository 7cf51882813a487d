import itertools
import random
import unittest

from helper import only_told_kinds, some_rows
from soundroad.waits import late, least_wait, plan, unrest

# The times from sent to came: 5, 7, 5, -3 and 0.
ROWS = ((0, 5), (10, 17), (-20, -15), (1, -2), (8, 8))


def rows_of(*delays):
    return tuple((100 * k, 100 * k + delay) for k, delay in enumerate(delays))


class Late(unittest.TestCase):
    def test_no_rows(self):
        for wait in (-5, 0, 5):
            self.assertEqual(late((), wait), 0)

    def test_one_row(self):
        self.assertEqual([late(((3, 10),), wait) for wait in (-1, 0, 6, 7, 8)], [1, 1, 1, 0, 0])

    def test_written_out(self):
        counts = [late(ROWS, wait) for wait in (-4, -3, -1, 0, 4, 5, 6, 7, 8)]
        self.assertEqual(counts, [5, 4, 4, 3, 3, 1, 1, 0, 0])

    def test_clocks_far_apart(self):
        rows = ((-1000000, 1000000), (1000000, -1000000))
        counts = [late(rows, wait) for wait in (-2000001, -2000000, 1999999, 2000000)]
        self.assertEqual(counts, [2, 1, 1, 0])

    def test_told_is_a_whole_number_and_asked_again_the_same(self):
        self.assertIs(type(late(ROWS, 0)), int)
        self.assertEqual(late(ROWS, 0), late(ROWS, 0))


class LeastWait(unittest.TestCase):
    def test_no_rows(self):
        for many in (0, 1, 9):
            self.assertIsNone(least_wait((), many))

    def test_one_row(self):
        self.assertEqual(least_wait(((3, 10),), 0), 7)
        self.assertEqual(least_wait(((10, 3),), 0), -7)
        self.assertIsNone(least_wait(((3, 10),), 1))
        self.assertIsNone(least_wait(((3, 10),), 2))

    def test_written_out(self):
        self.assertEqual([least_wait(ROWS, many) for many in range(7)], [7, 5, 5, 0, -3, None, None])

    def test_equal_times(self):
        self.assertEqual([least_wait(rows_of(4, 4, 4), many) for many in range(4)], [4, 4, 4, None])

    def test_clocks_far_apart(self):
        rows = ((-1000000, 1000000), (1000000, -1000000))
        self.assertEqual([least_wait(rows, many) for many in range(3)], [2000000, -2000000, None])

    def test_with_it_no_more_than_many_are_late_and_with_one_less_more(self):
        source = random.Random(51)
        for turn in range(200):
            rows = some_rows(source, turn % 20, source.choice((3, 30, 1000000)))
            for many in range(len(rows)):
                wait = least_wait(rows, many)
                self.assertIs(type(wait), int)
                self.assertLessEqual(late(rows, wait), many)
                self.assertGreater(late(rows, wait - 1), many)
            for many in (len(rows), len(rows) + 1, len(rows) + 100):
                self.assertIsNone(least_wait(rows, many))

    def test_less_than_none_is_not_refused(self):
        self.assertIsNone(least_wait((), -1))
        self.assertIsNone(least_wait(ROWS, -1))

    def test_what_is_handed_in_stays(self):
        rows = tuple(list(ROWS))
        self.assertEqual(least_wait(rows, 1), least_wait(rows, 1))
        self.assertEqual(rows, ROWS)


class Unrest(unittest.TestCase):
    def test_none_and_one(self):
        self.assertEqual(unrest(()), 0)
        self.assertEqual(unrest(((0, 500),)), 0)
        self.assertEqual(unrest(((1000000, -1000000),)), 0)

    def test_two(self):
        for change in (0, 1, 7, 8, 9, 16, 1000):
            self.assertEqual(unrest(rows_of(20, 20 + change)), change)
            self.assertEqual(unrest(rows_of(20, 20 - change)), change)

    def test_written_out(self):
        # 0, 16, 16 + 8 - 24 // 16 = 23, 23 + 3 - 31 // 16 = 25, 25 + 0 - 33 // 16 = 23
        self.assertEqual(unrest(rows_of(5, 21, 13, 16, 16)), 23)
        # 0, 7, 7 - 15 // 16 = 7
        self.assertEqual(unrest(rows_of(0, 7, 7)), 7)
        # 0, 8, 8 - 16 // 16 = 7
        self.assertEqual(unrest(rows_of(0, 8, 8)), 7)
        # 0, 100, 100 - 108 // 16 = 94, 94 - 102 // 16 = 88
        self.assertEqual(unrest(rows_of(0, 100, 100, 100)), 88)
        # What it was is taken, not what it is with the change: 100 + 100 - 108 // 16 = 194.
        self.assertEqual(unrest(rows_of(0, 100, 0)), 194)

    def test_up_and_down_alike(self):
        source = random.Random(52)
        for turn in range(50):
            delays = [source.randint(-300, 300) for k in range(turn)]
            self.assertEqual(unrest(rows_of(*delays)), unrest(rows_of(*[-delay for delay in delays])))
            self.assertEqual(unrest(rows_of(*delays)), unrest(rows_of(*[delay + 77 for delay in delays])))

    def test_clocks_far_apart(self):
        # 4000000, then 4000000 + 4000000 - 4000008 // 16
        rows = ((-1000000, 1000000), (1000000, -1000000), (-1000000, 1000000))
        self.assertEqual(unrest(rows), 7750000)

    def test_only_the_changes_count_not_the_order_of_clocks(self):
        self.assertEqual(unrest(((50, 60), (0, 40), (0, 10))), 30 + 30 - 2)

    def test_told_is_a_whole_number(self):
        for rows in ((), ROWS[:1], ROWS):
            self.assertIs(type(unrest(rows)), int)
            self.assertEqual(unrest(rows), unrest(rows))


class Plan(unittest.TestCase):
    def cost_of(self, talks, fee, change, waits):
        cost = 0
        for k in range(len(talks)):
            cost += waits[k]
            cost += fee * sum(1 for sent, came in talks[k] if came - sent > waits[k])
            if k > 0:
                cost += change * abs(waits[k] - waits[k - 1])
        return cost

    def assert_fits(self, talks, fee, change, most):
        told = plan(talks, fee, change, most)
        self.assertTrue(only_told_kinds(told))
        self.assertEqual(len(told), 2)
        cost, waits = told
        self.assertEqual(len(waits), len(talks))
        self.assertTrue(all(0 <= wait <= most for wait in waits))
        self.assertEqual(self.cost_of(talks, fee, change, waits), cost)
        self.assertEqual(plan(talks, fee, change, most), told)
        return told

    def assert_cheapest(self, talks, fee, change, most):
        cost = self.assert_fits(talks, fee, change, most)[0]
        ways = itertools.product(range(most + 1), repeat=len(talks))
        self.assertEqual(min(self.cost_of(talks, fee, change, waits) for waits in ways), cost)

    def test_no_talks(self):
        for fee, change, most in ((0, 0, 0), (5, 7, 60), (1000, 1000, 0)):
            self.assertEqual(plan((), fee, change, most), (0, ()))

    def test_one_talk_by_hand(self):
        talk = rows_of(5, 5, 2)
        self.assertEqual(plan((talk,), 10, 3, 60), (5, (5,)))
        self.assertEqual(plan((talk,), 1, 3, 60), (3, (0,)))
        self.assertEqual(plan((talk,), 10, 3, 4), (22, (2,)))
        self.assertEqual(plan((talk,), 10, 3, 0), (30, (0,)))
        self.assertEqual(plan((talk,), 0, 3, 60), (0, (0,)))

    def test_the_first_wait_costs_no_change(self):
        self.assertEqual(plan((rows_of(9),), 1000, 1000, 60), (9, (9,)))

    def test_several_talks_by_hand(self):
        talks = (rows_of(10), rows_of(), rows_of(10))
        self.assertEqual(plan(talks, 100, 0, 60), (20, (10, 0, 10)))
        self.assertEqual(plan(talks, 100, 1, 60), (30, (10, 10, 10)))
        self.assertEqual(plan(talks, 100, 1000, 60), (30, (10, 10, 10)))
        self.assertEqual(plan(talks, 5, 2, 60), (10, (0, 0, 0)))
        talks = (rows_of(3), rows_of(8))
        self.assertEqual(plan(talks, 100, 0, 60), (11, (3, 8)))
        self.assertEqual(plan(talks, 100, 4, 60), (16, (8, 8)))
        self.assertEqual(plan(talks, 5, 2, 60), (10, (0, 0)))
        self.assertEqual(plan(talks, 100, 4, 7), (106, (3, 3)))

    def test_it_is_not_enough_to_look_at_one_talk_at_a_time(self):
        # Alone, the middle one would wait 1.
        talks = (rows_of(6), rows_of(1), rows_of(6))
        self.assertEqual(plan(talks, 50, 10, 20), (18, (6, 6, 6)))

    def test_talks_without_rows(self):
        self.assertEqual(plan(((),), 1000, 1000, 60), (0, (0,)))
        self.assertEqual(plan(((),) * 8, 1000, 1000, 60), (0, (0,) * 8))

    def test_late_below_zero(self):
        self.assertEqual(plan((rows_of(-5, -1),), 1000, 5, 60), (0, (0,)))

    def test_most_of_zero(self):
        self.assertEqual(plan((rows_of(1), rows_of(1, 2), rows_of(0)), 7, 9, 0), (21, (0, 0, 0)))

    def test_what_comes_later_than_most_is_late(self):
        self.assertEqual(plan((rows_of(61),), 1000, 0, 60), (1000, (0,)))
        self.assertEqual(plan((rows_of(60),), 1000, 0, 60), (60, (60,)))

    def test_no_other_waits_cost_less(self):
        source = random.Random(53)
        for turn in range(150):
            most = source.choice((0, 1, 2, 4, 6))
            talks = tuple(rows_of(*[source.randint(-2, most + 2) for k in range(source.randrange(5))])
                          for talk in range(source.randrange(5)))
            fee, change = source.choice((0, 1, 2, 5, 1000)), source.choice((0, 1, 2, 5, 1000))
            self.assert_cheapest(talks, fee, change, most)

    def test_most_of_60_with_two_talks(self):
        source = random.Random(54)
        for turn in range(4):
            talks = tuple(rows_of(*[source.randint(0, 70) for k in range(5)]) for talk in range(2))
            self.assert_cheapest(talks, source.randint(0, 40), source.randint(0, 3), 60)

    def test_eight_talks(self):
        source = random.Random(55)
        for turn in range(3):
            talks = tuple(rows_of(*[source.randint(0, 3) for k in range(3)]) for talk in range(8))
            self.assert_cheapest(talks, source.randint(0, 4), source.randint(0, 2), 2)
        talks = tuple(rows_of(*[source.randint(0, 80) for k in range(20)]) for talk in range(8))
        cost, waits = self.assert_fits(talks, 9, 1, 60)
        for place in range(8):
            for wait in range(61):
                other = waits[:place] + (wait,) + waits[place + 1:]
                self.assertLessEqual(cost, self.cost_of(talks, 9, 1, other))

    def test_what_lies_beyond_the_bounds_is_not_refused(self):
        self.assertEqual(plan((rows_of(70),) * 9, 2000, 2000, 80), (630, (70,) * 9))
        self.assertEqual(plan((rows_of(0), rows_of(1)), 3, 2, -1), (3, (0, 0)))

    def test_what_is_handed_in_stays(self):
        talks = (rows_of(3, 4), (), rows_of(9))
        self.assert_fits(talks, 3, 1, 20)
        self.assertEqual(talks, (((0, 3), (100, 104)), (), ((0, 9),)))


if __name__ == "__main__":
    unittest.main()
