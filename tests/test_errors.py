import unittest

from soundroad.clocks import line_under, straight
from soundroad.errors import BadBytes, BadSounds, NoLine, RoadError
from soundroad.packing import unpacked
from soundroad.players import Player

REFUSALS = (BadBytes, NoLine, BadSounds)


class ErrorClasses(unittest.TestCase):
    def test_any_refusal_is_a_value_error(self):
        self.assertEqual(RoadError.__bases__, (ValueError,))

    def test_each_refusal_stands_straight_under_road_error(self):
        for refusal in REFUSALS:
            self.assertEqual(refusal.__bases__, (RoadError,), refusal)

    def test_no_refusal_stands_under_another(self):
        for one in REFUSALS:
            for other in REFUSALS:
                self.assertEqual(issubclass(one, other), one is other, (one, other))

    def test_the_names(self):
        names = [refusal.__name__ for refusal in (RoadError,) + REFUSALS]
        self.assertEqual(names, ["RoadError", "BadBytes", "NoLine", "BadSounds"])

    def test_each_refusal_is_met_by_its_own_name_and_those_above(self):
        for refusal in REFUSALS:
            for above in (refusal, RoadError, ValueError):
                with self.assertRaises(above):
                    raise refusal("words")

    def test_each_refusal_is_of_its_own_class_alone(self):
        for refused, refusal in (
            (lambda: unpacked(()), BadBytes),
            (lambda: unpacked((0, 1, 0, 0, 0)), BadBytes),
            (lambda: line_under(()), NoLine),
            (lambda: line_under(((3, 4), (3, 5))), NoLine),
            (lambda: straight(()), NoLine),
            (lambda: straight(((3, 4), (3, 5))), NoLine),
            (lambda: Player(2, 1, 10).put(0, (1,)), BadSounds),
            (lambda: Player(2, 1, 10).put(0, (1, 2, 3)), BadSounds),
        ):
            with self.assertRaises(ValueError) as met:
                refused()
            self.assertIs(type(met.exception), refusal)


if __name__ == "__main__":
    unittest.main()
