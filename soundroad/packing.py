"""A piece as bytes with a check, and back."""

from soundroad.errors import BadBytes

BYTE_ROUND = 256
CHECK_ROUND = 257
LOUDEST = 1000
MOST_SOUNDS = 16
COUNT_PLACE = 2
SOUNDS_PLACE = 3
SIZE_WITHOUT_SOUNDS = 5


def two_bytes(number):
    return (number // BYTE_ROUND % BYTE_ROUND, number % BYTE_ROUND)


def number_at(row, place):
    return row[place] * BYTE_ROUND + row[place + 1]


def check_of(row):
    return sum([place * byte for place, byte in enumerate(row, start=1)]) % CHECK_ROUND


def packed(number, sounds):
    row = list(two_bytes(number))
    row.append(len(sounds))
    for sound in sounds:
        row.extend(two_bytes(sound + LOUDEST))
    row.extend(two_bytes(check_of(row)))
    return tuple(row)


def count_fits(row):
    if len(row) < SIZE_WITHOUT_SOUNDS:
        return False
    count = row[COUNT_PLACE]
    return count <= MOST_SOUNDS and len(row) == SIZE_WITHOUT_SOUNDS + 2 * count


def sounds_of(row):
    places = [SOUNDS_PLACE + 2 * k for k in range(row[COUNT_PLACE])]
    return tuple([number_at(row, place) - LOUDEST for place in places])


def unpacked(row):
    if not count_fits(row):
        raise BadBytes("the count of sounds does not fit the bytes")
    number = number_at(row, 0)
    sounds = sounds_of(row)
    if any([sound > LOUDEST for sound in sounds]):
        raise BadBytes("a sound is too loud")
    # Packing anew leaves one way alone to write a piece: it meets a wrong check,
    # a check that is right but for its rest, and numbers that are no bytes.
    if packed(number, sounds) != row:
        raise BadBytes("the check does not fit the bytes")
    return (number, sounds)
