"""Short numbers that go round, and the long ones that they mean."""

ROUND = 65536
FARTHEST_BACK = 32768


def near(last, short):
    lowest = last - FARTHEST_BACK
    return lowest + (short - lowest) % ROUND


def unrolled(shorts):
    longs = []
    for short in shorts:
        # Near to the long number ahead, not to the short one: else every round but the first would be forgotten.
        longs.append(near(longs[-1], short) if longs else short)
    return tuple(longs)


def rolled(longs):
    return tuple([number % ROUND for number in longs])
