"""What the document promises over the whole program."""

import inspect
import random
import unittest

from helper import only_told_kinds, some_sounds
from soundroad import clocks, errors, numbers, packing, parity, players, waits
from soundroad.clocks import line_under, straight
from soundroad.errors import BadBytes
from soundroad.numbers import near, rolled, unrolled
from soundroad.packing import packed, unpacked
from soundroad.parity import healed, rebuilt, summed
from soundroad.players import Player
from soundroad.waits import late, least_wait, plan, unrest

INTERFACE = (
    (numbers, "near", 2), (numbers, "unrolled", 1), (numbers, "rolled", 1),
    (packing, "packed", 2), (packing, "unpacked", 1),
    (parity, "summed", 1), (parity, "rebuilt", 2), (parity, "healed", 3),
    (waits, "late", 2), (waits, "least_wait", 2), (waits, "unrest", 1), (waits, "plan", 4),
    (clocks, "line_under", 1), (clocks, "straight", 1),
    (players, "Player", 3),
    (players.Player, "put", 3), (players.Player, "take", 1), (players.Player, "waiting", 1), (players.Player, "seen", 1),
)
FIELD = (((1, -2), None), ((3, 4), (-5, 6)))
ROWS = ((0, 5), (10, 17), (-20, -15), (1, -2))
ASKED = (
    (near, (5, 65535)), (unrolled, ((65535, 0),)), (rolled, ((70000, -1),)),
    (packed, (258, (0, -7))), (unpacked, ((1, 2, 1, 3, 232, 0, 152),)),
    (summed, (((1, -2), (3, 4)),)), (rebuilt, (((1, -2),), (3, 4))),
    (healed, (FIELD, ((0, 0), (1, 1)), ((2, 2), (3, 3)))),
    (healed, (((None, None), (None, None)), ((0,), (0,)), ((0,), (0,)))),
    (late, (ROWS, 3)), (late, ((), 3)), (least_wait, (ROWS, 1)), (least_wait, (ROWS, 4)),
    (unrest, (ROWS,)), (unrest, ((),)),
    (plan, ((ROWS, (), ROWS), 3, 1, 20)), (plan, ((), 3, 1, 20)),
    (line_under, (ROWS,)), (straight, (ROWS,)),
)


class Interface(unittest.TestCase):
    def test_the_names_and_how_many_arguments_each_takes(self):
        for place, name, many in INTERFACE:
            self.assertEqual(len(inspect.signature(getattr(place, name)).parameters), many, name)

    def test_the_error_classes_are_those_of_errors(self):
        self.assertIs(packing.BadBytes, errors.BadBytes)
        self.assertIs(clocks.NoLine, errors.NoLine)
        self.assertIs(players.BadSounds, errors.BadSounds)


class Kinds(unittest.TestCase):
    def test_told_are_the_kinds_that_may_be_and_the_same_again(self):
        for asked, handed in ASKED:
            before = repr(handed)
            told = asked(*handed)
            self.assertTrue(only_told_kinds(told), asked)
            self.assertEqual(repr(handed), before, asked)
            self.assertEqual(asked(*handed), told, asked)

    def test_a_player_tells_the_kinds_that_may_be(self):
        player = Player(2, 2, 10)
        for short in (0, 1, 1, 50, 2, 3):
            self.assertIs(type(player.put(short, (short, -short))), str)
        for k in range(9):
            self.assertTrue(only_told_kinds((player.take(), player.waiting(), player.seen())))
        self.assertIs(type(player.put(0, (0, 0))), str)


class Road(unittest.TestCase):
    def send(self, source, height, width, size):
        field = tuple(tuple(some_sounds(source, size) for j in range(width)) for k in range(height))
        across = tuple(summed(row) for row in field)
        down = tuple(summed(tuple(row[j] for row in field)) for j in range(width))
        return field, across, down

    def damaged(self, source, row):
        place = source.randrange(len(row))
        byte = (row[place] + source.randint(1, 255)) % 256
        return row[:place] + (byte,) + row[place + 1:]

    def arrive(self, bytes_by_place, height, width, start):
        came = {}
        for row in bytes_by_place:
            try:
                number, sounds = unpacked(row)
            except BadBytes:
                continue
            came[near(start, number) - start] = sounds
        return tuple(tuple(came.get(k * width + j) for j in range(width)) for k in range(height))

    def played(self, field, start, first):
        pieces = [piece for row in field for piece in row]
        player = Player(len(pieces[0]), first, 10)
        told = []
        for k, piece in enumerate(pieces):
            self.assertEqual(player.put((start + k) % 65536, piece), "kept")
            if k + 1 >= first:
                told.append(player.take())
        return pieces[:len(told)], told

    def test_packed_damaged_lost_healed_and_played_as_it_was_sent(self):
        source = random.Random(81)
        for turn in range(60):
            height, width, start = source.randint(1, 6), source.randint(1, 6), source.choice((0, 65530, 40000))
            field, across, down = self.send(source, height, width, source.randint(1, 16))
            sent = [packed((start + k) % 65536, piece)
                    for k, piece in enumerate(piece for row in field for piece in row)]
            hurt = source.sample(range(len(sent)), min(3, len(sent)))
            for k in hurt[:2]:
                sent[k] = self.damaged(source, sent[k])
            left = [row for k, row in enumerate(sent) if k not in hurt[2:]]
            source.shuffle(left)
            came = self.arrive(left, height, width, start)
            self.assertEqual(sum(row.count(None) for row in came), len(hurt))
            whole = healed(came, across, down)
            self.assertEqual(whole, field)
            pieces, told = self.played(whole, start, min(source.randint(1, 4), height * width))
            self.assertEqual(told, pieces)

    def test_sums_travel_as_pieces_do(self):
        source = random.Random(82)
        field, across, down = self.send(source, 4, 5, 16)
        for total in across + down:
            self.assertEqual(unpacked(packed(9, total)), (9, total))


if __name__ == "__main__":
    unittest.main()
