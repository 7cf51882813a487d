"""Sums of pieces, and lost pieces that come back by them."""

from soundroad.packing import LOUDEST

LEVELS = 2001


def level_at(rows, place):
    return sum([row[place] + LOUDEST for row in rows])


def summed(rows):
    size = len(rows[0]) if rows else 0
    return tuple([level_at(rows, place) % LEVELS - LOUDEST for place in range(size)])


def rebuilt(rows, total):
    levels = [level_at((total,), place) - level_at(rows, place) for place in range(len(total))]
    return tuple([level % LEVELS - LOUDEST for level in levels])


def back_if_alone(pieces, total):
    others = [piece for piece in pieces if piece is not None]
    if len(others) == len(pieces) - 1:
        return rebuilt(others, total)
    return None


def piece_at(field, place, across, down):
    row = field[place[0]]
    piece = row[place[1]]
    if piece is None:
        piece = back_if_alone(row, across[place[0]])
    if piece is None:
        piece = back_if_alone([each[place[1]] for each in field], down[place[1]])
    return piece


def healed_row(field, k, across, down):
    return tuple([piece_at(field, (k, column), across, down) for column in range(len(field[k]))])


def healed_once(field, across, down):
    return tuple([healed_row(field, k, across, down) for k in range(len(field))])


def healed(rows, across, down):
    field = rows
    better = healed_once(field, across, down)
    # A piece that came back may leave another one alone in its row or column.
    while better != field:
        field = better
        better = healed_once(field, across, down)
    return field
