import random
import unittest

from helper import only_told_kinds, only_tuples_and_numbers, some_sounds
from soundroad.errors import BadSounds
from soundroad.players import Player

WAYS = ("kept", "late", "twice", "far", "played", "joined", "stretched", "lost", "silent")


def counts(**told):
    return tuple(told.get(way, 0) for way in WAYS)


def put_all(player, numbers):
    # A piece's sounds tell its number.
    return [player.put(number % 65536, (number,) * player.size) for number in numbers]


def stopped_player(first):
    # Plays the numbers from 0 on, loses three, and then does not play; the next number is due.
    player = Player(1, first, 10)
    put_all(player, range(first))
    while player.seen()[WAYS.index("lost")] < 3:
        player.take()
    return player


def going_over(one, other):
    size = len(one)
    return tuple((one[k] * (size - k) + other[k] * k) // size for k in range(size))


class Put(unittest.TestCase):
    def test_the_first_piece_is_kept_under_its_short_number(self):
        for short in (0, 1, 32767, 32768, 40000, 65535):
            for takes in range(3):
                player = Player(2, 2, 10)
                for k in range(takes):
                    player.take()
                self.assertEqual(player.put(short, (1, 2)), "kept")
                self.assertEqual(player.waiting(), (short,))
                self.assertEqual(player.seen(), counts(kept=1, silent=takes))

    def test_twice(self):
        player = Player(1, 3, 10)
        self.assertEqual(put_all(player, (5, 6, 5, 6, 5)), ["kept", "kept", "twice", "twice", "twice"])
        self.assertEqual(player.waiting(), (5, 6))
        self.assertEqual(player.seen(), counts(kept=2, twice=3))

    def test_twice_leaves_the_sounds_as_they_were(self):
        player = Player(1, 1, 10)
        player.put(5, (100,))
        self.assertEqual(player.put(5, (200,)), "twice")
        self.assertEqual(player.take(), (100,))

    def test_twice_goes_ahead_of_far(self):
        player = Player(1, 5, 10)
        # 50 is due then, and 100 lies far behind it, but is kept.
        self.assertEqual(put_all(player, (100, 50, 100, 99)), ["kept", "kept", "twice", "far"])

    def test_what_was_played_is_late_and_not_twice(self):
        player = Player(1, 1, 10)
        put_all(player, (5,))
        player.take()
        self.assertEqual(put_all(player, (5,)), ["late"])
        self.assertEqual(player.waiting(), ())

    def test_what_was_lost_is_late(self):
        player = Player(1, 1, 10)
        put_all(player, (5, 7))
        player.take()
        self.assertEqual(put_all(player, (6,)), ["kept"])
        player.take()
        player.take()
        player.take()
        self.assertEqual(player.seen(), counts(kept=3, played=3, lost=1))
        self.assertEqual(put_all(player, (8, 9)), ["late", "kept"])

    def test_before_it_has_played_nothing_is_late(self):
        player = Player(1, 9, 10)
        self.assertEqual(put_all(player, (100, 99, 0, -500, 50)), ["kept"] * 4 + ["far"])
        player.take()
        self.assertEqual(put_all(player, (-501,)), ["kept"])
        self.assertEqual(player.waiting(), (-501, -500, 0, 99, 100))

    def test_while_it_plays_what_is_below_the_due_one_is_late(self):
        player = Player(1, 1, 10)
        put_all(player, (100,))
        player.take()
        self.assertEqual(put_all(player, (100, 99, 0, 101)), ["late", "late", "late", "kept"])
        self.assertEqual(player.seen(), counts(kept=2, late=3, played=1))

    def test_a_stretched_take_makes_it_a_player_that_has_played(self):
        player = Player(1, 2, 10)
        put_all(player, (5, 6))
        player.take()
        player.take()
        self.assertEqual(player.seen(), counts(kept=2, played=1, stretched=1))
        self.assertEqual(put_all(player, (5, 6)), ["late", "twice"])

    def test_far_while_it_plays(self):
        for most in (10, 11, 1000):
            player = Player(1, 1, most)
            put_all(player, (0,))
            player.take()
            # 1 is due, and none is kept.
            self.assertEqual(put_all(player, (most + 1, most, most + 1, 5000)), ["far", "kept", "far", "far"])
            self.assertEqual(player.waiting(), (most,))
            self.assertEqual(player.seen(), counts(kept=2, far=3, played=1))

    def test_kept_while_it_plays_does_not_move_the_due_one(self):
        player = Player(1, 1, 10)
        put_all(player, (0,))
        player.take()
        put_all(player, (3,))
        self.assertEqual([player.take() for k in range(3)], [(0,), (0,), (3,)])
        self.assertEqual(player.seen(), counts(kept=2, played=2, lost=2))

    def test_far_while_one_is_kept_and_it_does_not_play_yet(self):
        player = Player(1, 5, 10)
        self.assertEqual(put_all(player, (20, 30, 29, 30, 40)), ["kept", "far", "kept", "far", "far"])
        # With 19 due, 29 would be far, and 28 is not.
        self.assertEqual(put_all(player, (19, 28)), ["kept", "kept"])
        self.assertEqual(player.waiting(), (19, 20, 28, 29))
        player = Player(1, 5, 10)
        self.assertEqual(put_all(player, (20, 19, 29)), ["kept", "kept", "far"])

    def test_no_more_playing_and_none_kept_nothing_is_far(self):
        for first in (1, 2):
            player = stopped_player(first)
            due = first + 3
            self.assertEqual(put_all(player, (due - 1,)), ["late"])
            self.assertEqual(put_all(player, (due + 30000,)), ["kept"])
            # It is due now, though the player does not play.
            self.assertEqual(put_all(player, (due + 29999, due + 30010, due + 30009)), ["late", "far", "kept"])
            self.assertEqual(player.waiting(), (due + 30000, due + 30009))

    def test_no_more_playing_and_the_due_one_itself(self):
        player = stopped_player(1)
        self.assertEqual(put_all(player, (3, 4)), ["late", "kept"])
        self.assertEqual(player.take(), (4,))

    def test_no_more_playing_and_some_kept_what_is_below_is_late(self):
        player = stopped_player(3)
        self.assertEqual(put_all(player, (20, 19, 22, 21)), ["kept", "late", "kept", "kept"])
        self.assertEqual(player.waiting(), (20, 21, 22))

    def test_numbers_go_round_upwards(self):
        player = Player(1, 9, 10)
        self.assertEqual(put_all(player, (65534, 65535, 65536, 65537)), ["kept"] * 4)
        self.assertEqual(player.waiting(), (65534, 65535, 65536, 65537))
        self.assertEqual(player.put(1, (0,)), "twice")

    def test_numbers_go_round_downwards(self):
        player = Player(1, 9, 10)
        self.assertEqual(put_all(player, (1, 0, -1, -2)), ["kept"] * 4)
        self.assertEqual(player.waiting(), (-2, -1, 0, 1))
        self.assertEqual(player.put(65535, (0,)), "twice")

    def test_numbers_are_near_to_the_due_one(self):
        for first, short, number in ((0, 32767, 32767), (0, 32768, -32768), (40000, 7231, 72767), (40000, 7232, 7232)):
            player = Player(1, 9, 100000)
            player.put(first, (0,))
            player.put(short, (0,))
            self.assertEqual(player.waiting(), tuple(sorted((first, number))))

    def test_numbers_go_round_while_it_plays(self):
        player = Player(1, 1, 10)
        for number in range(65000, 65536 * 3):
            player.put(number % 65536, (number % 1000,))
            self.assertEqual(player.take(), (number % 1000,))
        self.assertEqual(player.put(65535, (0,)), "late")
        self.assertEqual(player.put(0, (0,)), "kept")
        self.assertEqual(player.waiting(), (65536 * 3,))

    def test_bounds_are_not_refused(self):
        player = Player(17, 12, 2000)
        self.assertEqual(player.put(70000, (2000,) * 17), "kept")
        self.assertEqual(player.waiting(), (70000,))
        self.assertEqual(player.take(), (0,) * 17)
        player = Player(1, 0, 5)
        self.assertEqual(player.take(), (0,))
        self.assertEqual(player.put(3, (9,)), "kept")
        self.assertEqual(player.take(), (9,))


class Refused(unittest.TestCase):
    def assert_refused(self, player, short, sounds):
        before = (player.waiting(), player.seen())
        with self.assertRaises(BadSounds) as met:
            player.put(short, sounds)
        self.assertIs(type(met.exception), BadSounds)
        self.assertEqual((player.waiting(), player.seen()), before)

    def test_not_as_many_sounds(self):
        for size in (1, 2, 16):
            player = Player(size, 2, 10)
            for many in range(20):
                if many != size:
                    self.assert_refused(player, 5, (0,) * many)
            self.assertEqual(player.put(5, (0,) * size), "kept")

    def test_ahead_of_the_first_piece(self):
        player = Player(2, 2, 10)
        self.assert_refused(player, 7, (1,))
        self.assert_refused(player, 7, ())
        # Near to 7 it would be below 0.
        self.assertEqual(player.put(60000, (1, 2)), "kept")
        self.assertEqual(player.waiting(), (60000,))

    def test_whatever_else_would_have_been_told(self):
        player = Player(1, 1, 10)
        put_all(player, (50,))
        player.take()
        put_all(player, (52,))
        for number in (52, 50, 5000, 51):
            self.assert_refused(player, number, (1, 1))

    def test_a_player_that_refused_plays_on_as_before(self):
        source = random.Random(71)
        for turn in range(40):
            first = source.randint(1, 4)
            one, other = Player(2, first, 10), Player(2, first, 10)
            for number in range(40):
                if source.randrange(4):
                    sounds = some_sounds(source, 2)
                    self.assertEqual(one.put(number, sounds), other.put(number, sounds))
                self.assert_refused(other, source.randrange(65536), some_sounds(source, source.choice((0, 1, 3))))
                if source.randrange(3):
                    self.assertEqual(one.take(), other.take())
                self.assertEqual((one.waiting(), one.seen()), (other.waiting(), other.seen()))


class Take(unittest.TestCase):
    def test_silent_till_enough_are_kept(self):
        for first in range(1, 10):
            player = Player(2, first, 10)
            for number in range(first):
                self.assertEqual(player.take(), (0, 0))
                put_all(player, (100 + number,))
            self.assertEqual(player.seen(), counts(kept=first, silent=first))
            self.assertEqual(player.take(), (100, 100))
            self.assertEqual(player.seen(), counts(kept=first, silent=first, played=1))

    def test_more_than_first_kept_at_once(self):
        player = Player(1, 2, 10)
        put_all(player, (7, 8, 9))
        self.assertEqual(player.take(), (7,))

    def test_it_begins_with_the_least_number(self):
        player = Player(1, 3, 10)
        put_all(player, (7, 9, 6))
        self.assertEqual([player.take() for k in range(2)], [(6,), (7,)])
        self.assertEqual(player.waiting(), (9,))

    def test_played(self):
        player = Player(3, 1, 10)
        player.put(5, (1, -2, 1000))
        player.put(6, (-1000, 0, 3))
        self.assertEqual(player.take(), (1, -2, 1000))
        self.assertEqual(player.waiting(), (6,))
        self.assertEqual(player.take(), (-1000, 0, 3))
        self.assertEqual(player.waiting(), ())
        self.assertEqual(player.seen(), counts(kept=2, played=2))

    def test_joined(self):
        player = Player(4, 1, 10)
        player.put(0, (100, 100, -100, 7))
        player.put(1, (0, 200, -201, -8))
        player.put(2, (5, 5, 5, 5))
        # 400 // 4, (300 + 200) // 4, (-200 - 402) // 4, (7 - 24) // 4
        self.assertEqual(player.take(), (100, 125, -151, -5))
        self.assertEqual(player.waiting(), (2,))
        self.assertEqual(player.seen(), counts(kept=3, joined=1))
        self.assertEqual(player.take(), (5, 5, 5, 5))

    def test_joined_sounds_below_zero(self):
        player = Player(3, 1, 10)
        player.put(0, (-1, -1, -1))
        player.put(1, (0, 0, 0))
        player.put(2, (0, 0, 0))
        self.assertEqual(player.take(), (-1, -1, -1))
        player = Player(3, 1, 10)
        player.put(0, (1, 1, 1))
        player.put(1, (0, 0, 0))
        player.put(2, (0, 0, 0))
        self.assertEqual(player.take(), (1, 0, 0))

    def test_joined_only_with_more_than_first_and_one(self):
        for first in range(1, 10):
            player = Player(1, first, 30)
            put_all(player, range(first + 1))
            player.take()
            self.assertEqual(player.seen(), counts(kept=first + 1, played=1))
            player = Player(1, first, 30)
            put_all(player, range(first + 2))
            player.take()
            self.assertEqual(player.seen(), counts(kept=first + 2, joined=1))
            self.assertEqual(player.waiting(), tuple(range(2, first + 2)))

    def test_joined_only_with_the_next_number(self):
        player = Player(1, 1, 10)
        put_all(player, (0, 2, 3, 4, 5))
        self.assertEqual(player.take(), (0,))
        self.assertEqual(player.take(), (0,))
        self.assertEqual(player.seen(), counts(kept=5, played=1, lost=1))
        self.assertEqual(player.take(), (2,))
        self.assertEqual(player.seen(), counts(kept=5, played=1, lost=1, joined=1))
        self.assertEqual(player.waiting(), (4, 5))

    def test_joined_again_and_again(self):
        player = Player(2, 1, 20)
        for number in range(8):
            player.put(number, (number * 10, number * 10))
        # At place 1 half of each.
        told = [player.take() for k in range(5)]
        self.assertEqual(told, [(0, 5), (20, 25), (40, 45), (60, 60), (70, 70)])
        self.assertEqual(player.seen(), counts(kept=8, joined=3, played=2))

    def test_stretched(self):
        player = Player(4, 2, 10)
        player.put(0, (100, 100, 100, 7))
        player.put(1, (0, 200, -201, -8))
        self.assertEqual(player.take(), (100, 100, 100, 7))
        # 400 // 4, (300 + 200) // 4, (200 - 402) // 4, (7 - 24) // 4
        self.assertEqual(player.take(), (100, 125, -51, -5))
        self.assertEqual(player.waiting(), (1,))
        self.assertEqual(player.seen(), counts(kept=2, played=1, stretched=1))
        self.assertEqual(player.take(), (0, 200, -201, -8))
        self.assertEqual(player.waiting(), ())
        self.assertEqual(player.seen(), counts(kept=2, played=2, stretched=1))

    def test_never_stretched_with_first_of_1(self):
        player = Player(1, 1, 10)
        for number in range(5):
            put_all(player, (number,))
            self.assertEqual(player.take(), (number,))
        self.assertEqual(player.seen(), counts(kept=5, played=5))

    def test_not_stretched_with_another_one_kept(self):
        player = Player(1, 2, 10)
        put_all(player, (0, 1, 9))
        self.assertEqual([player.take(), player.take()], [(0,), (1,)])
        self.assertEqual(player.seen(), counts(kept=3, played=2))

    def test_stretched_only_every_other_take(self):
        player = Player(2, 2, 10)
        player.put(0, (0, 0))
        player.put(1, (10, 10))
        told = [player.take()]
        for number in range(2, 5):
            told.append(player.take())
            told.append(player.take())
            player.put(number, (number * 10, number * 10))
        self.assertEqual(told, [(0, 0), (0, 5), (10, 10), (10, 15), (20, 20), (20, 25), (30, 30)])
        self.assertEqual(player.seen(), counts(kept=5, played=4, stretched=3))

    def test_what_comes_after_a_stretched_take(self):
        player = Player(1, 2, 10)
        put_all(player, (0, 1))
        player.take()
        player.take()
        # Now four are kept: more than first and one, so the due one is joined and not played.
        put_all(player, (2, 3, 4))
        player.take()
        self.assertEqual(player.seen(), counts(kept=5, played=1, stretched=1, joined=1))
        self.assertEqual(player.waiting(), (3, 4))

    def test_stretched_out_of_a_lost_one(self):
        player = Player(2, 2, 10)
        player.put(0, (80, 80))
        player.put(1, (80, 80))
        for k in range(3):
            player.take()
        self.assertEqual(player.take(), (40, 40))
        player.put(3, (0, 0))
        self.assertEqual(player.take(), (40, 20))
        self.assertEqual(player.take(), (0, 0))
        self.assertEqual(player.seen(), counts(kept=3, played=3, stretched=2, lost=1))

    def test_lost_half_as_loud(self):
        player = Player(7, 1, 10)
        player.put(0, (1000, -1000, 7, -7, 1, -1, 0))
        player.take()
        self.assertEqual(player.take(), (500, -500, 3, -3, 0, 0, 0))
        self.assertEqual(player.take(), (250, -250, 1, -1, 0, 0, 0))
        self.assertEqual(player.take(), (125, -125, 0, 0, 0, 0, 0))
        self.assertEqual(player.take(), (0,) * 7)
        self.assertEqual(player.seen(), counts(kept=1, played=1, lost=3, silent=1))

    def test_a_lost_one_behind_a_joined_one(self):
        player = Player(2, 1, 10)
        player.put(0, (8, 8))
        player.put(1, (-8, -9))
        player.put(3, (2, 2))
        self.assertEqual(player.take(), (8, -1))
        self.assertEqual(player.take(), (4, 0))
        self.assertEqual(player.take(), (2, 2))

    def test_third_lost_in_a_row_with_none_kept(self):
        for first in (1, 2, 5):
            player = stopped_player(first)
            seen = player.seen()
            self.assertEqual(player.take(), (0,))
            self.assertEqual(player.seen()[-2:], (3, seen[-1] + 1))
            # It needs first pieces again.
            for number in range(first):
                self.assertEqual(player.take(), (0,))
                put_all(player, (50 + number,))
            self.assertEqual(player.take(), (50,))

    def test_two_lost_in_a_row_do_not_stop_it(self):
        player = Player(1, 1, 10)
        told = []
        for number in (0, 3, 6):
            put_all(player, (number,))
            told += [player.take() for k in range(3)]
        self.assertEqual(told, [(0,), (0,), (0,), (3,), (1,), (0,), (6,), (3,), (1,)])
        self.assertEqual(player.seen(), counts(kept=3, played=3, lost=6))
        # The third one in this row stops it.
        self.assertEqual([player.take(), player.take()], [(0,), (0,)])
        self.assertEqual(player.seen(), counts(kept=3, played=3, lost=7, silent=1))

    def test_a_stretched_take_ends_a_row_of_lost_ones(self):
        player = Player(1, 2, 10)
        put_all(player, (0, 1))
        for k in range(5):
            player.take()
        self.assertEqual(player.seen(), counts(kept=2, played=2, stretched=1, lost=2))
        put_all(player, (4,))
        for k in range(4):
            player.take()
        # Two lost, stretched, played, two lost.
        self.assertEqual(player.seen(), counts(kept=3, played=3, stretched=2, lost=4))
        player.take()
        player.take()
        self.assertEqual(player.seen(), counts(kept=3, played=3, stretched=2, lost=5, silent=1))

    def test_third_lost_in_a_row_with_some_kept(self):
        player = Player(1, 1, 10)
        player.put(0, (64,))
        player.put(6, (9,))
        told = [player.take() for k in range(7)]
        self.assertEqual(told, [(64,), (32,), (16,), (8,), (4,), (2,), (9,)])
        self.assertEqual(player.seen(), counts(kept=2, played=2, lost=5))
        told = [player.take() for k in range(5)]
        self.assertEqual(told, [(4,), (2,), (1,), (0,), (0,)])
        self.assertEqual(player.seen(), counts(kept=2, played=2, lost=8, silent=2))

    def test_the_last_sounds_after_a_stop_are_silent(self):
        player = Player(2, 1, 10)
        player.put(0, (80, 80))
        for k in range(5):
            player.take()
        player.put(100, (4, 4))
        self.assertEqual([player.take() for k in range(2)], [(4, 4), (2, 2)])
        # With first of 2 it can only be stretched out of what it told itself.
        player = Player(2, 2, 10)
        player.put(0, (80, 80))
        player.put(1, (80, 80))
        self.assertEqual([player.take() for k in range(7)], [(80, 80)] * 3 + [(40, 40), (20, 20), (10, 10), (0, 0)])
        player.put(200, (6, 6))
        self.assertEqual(player.take(), (0, 0))
        player.put(201, (8, 8))
        self.assertEqual([player.take() for k in range(3)], [(6, 6), (6, 7), (8, 8)])

    def test_a_road_by_hand(self):
        player = Player(2, 2, 10)
        self.assertEqual(player.take(), (0, 0))
        self.assertEqual(player.put(65535, (10, -10)), "kept")
        self.assertEqual(player.take(), (0, 0))
        self.assertEqual(player.put(65534, (20, -20)), "kept")
        self.assertEqual(player.take(), (20, -20))
        self.assertEqual(player.put(65534, (20, -20)), "late")
        self.assertEqual(player.take(), (20, -15))
        self.assertEqual(player.take(), (10, -10))
        self.assertEqual(player.take(), (5, -5))
        self.assertEqual(player.put(0, (30, -30)), "late")
        self.assertEqual(player.put(1, (40, -41)), "kept")
        self.assertEqual(player.put(1, (40, -41)), "twice")
        self.assertEqual(player.put(11, (0, 0)), "far")
        self.assertEqual(player.take(), (5, -23))
        self.assertEqual([player.put(short, (0, 7)) for short in (2, 3, 4)], ["kept"] * 3)
        self.assertEqual(player.waiting(), (65537, 65538, 65539, 65540))
        self.assertEqual(player.take(), (40, -17))
        self.assertEqual(player.waiting(), (65539, 65540))
        self.assertEqual(player.seen(), (6, 2, 1, 1, 2, 1, 2, 1, 2))


class WaitingAndSeen(unittest.TestCase):
    def test_at_first(self):
        player = Player(3, 2, 10)
        self.assertEqual(player.waiting(), ())
        self.assertEqual(player.seen(), (0,) * 9)

    def test_waiting_rises_whatever_the_order(self):
        player = Player(1, 9, 100)
        put_all(player, (50, 48, 51, 49, 47, 60))
        self.assertEqual(player.waiting(), (47, 48, 49, 50, 51, 60))

    def test_asking_changes_nothing(self):
        player = Player(1, 1, 10)
        put_all(player, (5, 3))
        for k in range(3):
            self.assertEqual(player.waiting(), (3, 5))
            self.assertEqual(player.seen(), counts(kept=2))
        self.assertEqual(player.take(), (3,))

    def test_what_was_told_stays(self):
        player = Player(1, 1, 10)
        put_all(player, (5, 3))
        waiting, seen = player.waiting(), player.seen()
        player.take()
        self.assertEqual((waiting, seen), ((3, 5), counts(kept=2)))

    def test_two_players_do_not_touch_one_another(self):
        one, other = Player(1, 1, 10), Player(1, 1, 10)
        put_all(one, (5, 6))
        one.take()
        self.assertEqual((other.waiting(), other.seen()), ((), (0,) * 9))
        self.assertEqual(other.take(), (0,))
        self.assertEqual(put_all(other, (900,)), ["kept"])
        self.assertEqual(one.waiting(), (6,))
        self.assertEqual(one.take(), (6,))


class AnyRoad(unittest.TestCase):
    def take_and_tell(self, player):
        waiting, seen = player.waiting(), player.seen()
        sounds = player.take()
        ways = [way for way, before, after in zip(WAYS, seen, player.seen()) if before != after]
        self.assertEqual(len(ways), 1)
        self.assertEqual(sum(player.seen()), sum(seen) + 1)
        gone = tuple(number for number in waiting if number not in player.waiting())
        return ways[0], gone, sounds

    def assert_sounds(self, way, sounds, last, pieces):
        if way == "silent":
            self.assertEqual(sounds, (0,) * len(last))
        if way == "lost":
            self.assertEqual(sounds, tuple(int(sound / 2) for sound in last))
        if way == "played":
            self.assertEqual(sounds, pieces[0])
        if way == "joined":
            self.assertEqual(sounds, going_over(pieces[0], pieces[1]))
        if way == "stretched":
            self.assertEqual(sounds, going_over(last, pieces[0]))

    def assert_order(self, way, gone, played):
        self.assertEqual(len(gone), {"played": 1, "joined": 2}.get(way, 0))
        if way == "joined":
            self.assertEqual(gone[1], gone[0] + 1)
        for number in gone:
            self.assertTrue(played == [] or number > played[-1])
            played.append(number)

    def run_road(self, source, player, takes):
        pieces, played, number = {}, [], source.randrange(65536)
        last = (0,) * player.size
        for turn in range(takes):
            for k in range(source.choice((0, 0, 1, 1, 1, 2, 3))):
                number += source.choice((-2, -1, 0, 1, 1, 1, 1, 2, 4, 30))
                sounds = some_sounds(source, player.size)
                before = player.waiting()
                fate = player.put(number % 65536, sounds)
                self.assertTrue(only_told_kinds(fate))
                for new in set(player.waiting()) - set(before):
                    self.assertEqual((fate, new % 65536), ("kept", number % 65536))
                    pieces[new] = sounds
            way, gone, sounds = self.take_and_tell(player)
            self.assertTrue(only_tuples_and_numbers((sounds, player.waiting(), player.seen())))
            told_of = player.waiting() if way == "stretched" else gone
            self.assert_sounds(way, sounds, last, [pieces[each] for each in told_of])
            self.assert_order(way, gone, played)
            last = sounds
        seen = dict(zip(WAYS, player.seen()))
        self.assertEqual(seen["kept"], seen["played"] + 2 * seen["joined"] + len(player.waiting()))

    def test_each_kept_piece_once_at_most_and_in_order(self):
        source = random.Random(72)
        for turn in range(150):
            player = Player(source.randint(1, 16), source.randint(1, 9), source.choice((10, 20, 1000)))
            self.run_road(source, player, 80)

    def test_what_comes_in_time_and_in_order_is_told_as_it_was_sent(self):
        source = random.Random(73)
        for first in range(1, 10):
            for start in (0, 65500):
                sent = [some_sounds(source, 5) for k in range(100)]
                player = Player(5, first, 10)
                told = []
                for k, sounds in enumerate(sent):
                    self.assertEqual(player.put((start + k) % 65536, sounds), "kept")
                    if k + 1 >= first:
                        told.append(player.take())
                self.assertEqual(told, sent[:101 - first])
                self.assertEqual(player.seen(), counts(kept=100, played=101 - first))


if __name__ == "__main__":
    unittest.main()
