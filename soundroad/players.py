"""A player that evens out what comes late, twice or not at all."""

from soundroad.errors import BadSounds
from soundroad.numbers import near

SEEN = ("kept", "late", "twice", "far", "played", "joined", "stretched", "lost", "silent")
STEPS = {"played": 1, "joined": 2, "stretched": 0, "lost": 1, "silent": 0}
LOST_TILL_STOP = 3


def going_over(one, other):
    size = len(one)
    return tuple([(one[k] * (size - k) + other[k] * k) // size for k in range(size)])


def half_as_loud(sounds):
    return tuple([-(-sound // 2) if sound < 0 else sound // 2 for sound in sounds])


class Player:
    def __init__(self, size, first, most):
        self.size = size
        self.first = first
        self.most = most
        self.kept = {}
        self.due = None
        self.playing = False
        self.has_played = False
        self.last = (0,) * size
        self.way_ahead = "silent"
        self.lost_in_row = 0
        self.tally = {}
        for kind in SEEN:
            self.tally[kind] = 0

    def put(self, short, sounds):
        if len(sounds) != self.size:
            raise BadSounds("a piece has another count of sounds than the player")
        number = short if self.due is None else near(self.due, short)
        fate = self.fate_of(number)
        if fate == "kept":
            self.keep(number, sounds)
        self.tally[fate] += 1
        return fate

    def fate_of(self, number):
        if number in self.kept:
            return "twice"
        if self.has_played and number < self.due:
            return "late"
        if (self.playing or len(self.kept) > 0) and number >= self.due + self.most:
            return "far"
        return "kept"

    def keep(self, number, sounds):
        alone = not self.playing and len(self.kept) == 0
        if alone or number < self.due:
            self.due = number
        self.kept[number] = sounds

    def take(self):
        self.begin_if_enough()
        way = self.way_of_take()
        self.last = self.sounds_by(way)
        self.step_on(way)
        self.stop_if_lost(way)
        self.way_ahead = way
        self.tally[way] += 1
        return self.last

    def begin_if_enough(self):
        # With nothing kept there is no number to begin with, however small first is.
        if not self.playing and len(self.kept) >= max(self.first, 1):
            self.playing = True
            self.has_played = True
            self.due = min(list(self.kept))

    def way_of_take(self):
        if not self.playing:
            return "silent"
        if self.due not in self.kept:
            return "lost"
        if len(self.kept) > self.first + 1 and self.due + 1 in self.kept:
            return "joined"
        if len(self.kept) == 1 and self.first > 1 and self.way_ahead != "stretched":
            return "stretched"
        return "played"

    def sounds_by(self, way):
        if way == "silent":
            return (0,) * self.size
        if way == "lost":
            return half_as_loud(self.last)
        if way == "joined":
            return going_over(self.kept[self.due], self.kept[self.due + 1])
        if way == "stretched":
            return going_over(self.last, self.kept[self.due])
        return self.kept[self.due]

    def step_on(self, way):
        for step in range(STEPS[way]):
            # A lost piece steps on too, and was never kept.
            self.kept.pop(self.due, None)
            self.due += 1

    def stop_if_lost(self, way):
        self.lost_in_row = self.lost_in_row + 1 if way == "lost" else 0
        if self.lost_in_row == LOST_TILL_STOP and len(self.kept) == 0:
            self.playing = False

    def waiting(self):
        return tuple(sorted(self.kept))

    def seen(self):
        return tuple([self.tally[kind] for kind in SEEN])
