import math
import unittest

from leaperwalk.endless import can_reach, free_fewest
from leaperwalk.errors import BadLeap, BadNumber
from tests.samples import LEAPS, NO_LEAPS, NO_NUMBERS, landings

KNIGHT = (1, 2)
FAR = range(-12, 13)
WIDTH = 36


def wide_distances(leap):
    """The fewest leaps from (0, 0) to all cells of a wide floor around it, ring by ring."""
    found = {(0, 0): 0}
    ring = [(0, 0)]
    while ring:
        further = []
        for cell in ring:
            for other in landings(leap, cell):
                if max(abs(other[0]), abs(other[1])) <= WIDTH and other not in found:
                    found[other] = found[cell] + 1
                    further.append(other)
        ring = further
    return found


class Endless(unittest.TestCase):
    def test_all_numbers_and_all_leaps(self):
        for leap in LEAPS:
            found = wide_distances(leap)
            for down in FAR:
                for right in FAR:
                    fewest = found.get((down, right))
                    if fewest is not None:
                        # No way of so few leaps comes to the rim, so that the floor is as good as endless.
                        self.assertLessEqual(fewest * leap[1], WIDTH)
                    told = free_fewest(leap, down, right)
                    self.assertEqual(told, fewest, (leap, down, right))
                    self.assertIs(type(told), type(fewest))
                    self.assertIs(can_reach(leap, down, right), fewest is not None, (leap, down, right))

    def test_can_reach_as_the_numbers_divide(self):
        for leap in LEAPS:
            divisor = math.gcd(*leap)
            for down in FAR:
                for right in FAR:
                    told = down % divisor == 0 and right % divisor == 0
                    if sum(leap) // divisor % 2 == 0:
                        told = told and (down + right) // divisor % 2 == 0
                    self.assertIs(can_reach(leap, down, right), told, (leap, down, right))

    def test_known_numbers_of_leaps(self):
        for down, right, fewest in (
            (0, 0, 0), (1, 2, 1), (-2, 1, 1), (1, 1, 2), (0, 1, 3), (-1, 0, 3), (2, 2, 4), (-2, -2, 4), (12, 12, 8),
        ):
            self.assertEqual(free_fewest(KNIGHT, down, right), fewest, (down, right))
        self.assertEqual(free_fewest((0, 1), -12, 12), 24)
        self.assertEqual(free_fewest((1, 1), 12, -12), 12)
        self.assertEqual(free_fewest((1, 1), 12, 0), 12)
        self.assertEqual(free_fewest((4, 4), 12, 12), 3)
        self.assertEqual(free_fewest((0, 4), 8, -12), 5)

    def test_no_leap_leads_to_where_one_is(self):
        for leap in LEAPS:
            self.assertEqual(free_fewest(leap, 0, 0), 0)
            self.assertIs(can_reach(leap, 0, 0), True)
            self.assertEqual(free_fewest(leap, *leap), 1)
            self.assertEqual(free_fewest(leap, -leap[1], leap[0]), 1)

    def test_places_that_are_never_reached(self):
        for leap, down, right in (
            ((1, 1), 0, 1), ((1, 3), 12, 11), ((2, 2), 2, 0), ((2, 2), 1, 1), ((0, 2), 1, 0), ((0, 2), 2, 1),
            ((3, 3), 3, 0), ((3, 3), 9, 6), ((2, 4), 3, 1), ((4, 4), 4, 0), ((4, 4), -8, -12), ((0, 4), 4, 2),
        ):
            self.assertIs(can_reach(leap, down, right), False, (leap, down, right))
            self.assertIsNone(free_fewest(leap, down, right))

    def test_places_that_are_reached(self):
        for leap, down, right in (
            ((1, 1), 1, -11), ((1, 3), 0, 2), ((2, 2), 4, 0), ((2, 2), 2, -2), ((0, 2), 2, 0), ((0, 3), -9, 6),
            ((3, 3), 3, 9), ((2, 4), 0, 2), ((4, 4), 8, 0), ((4, 4), -12, 12), ((0, 4), 4, 8), ((3, 4), 0, 1),
        ):
            self.assertIs(can_reach(leap, down, right), True, (leap, down, right))
            self.assertIsNotNone(free_fewest(leap, down, right))


class Refusals(unittest.TestCase):
    def test_numbers_from_minus_12_to_12_alone(self):
        for call in (can_reach, free_fewest):
            for number in range(-40, 41):
                for leap in (KNIGHT, (4, 4)):
                    if number in FAR:
                        call(leap, number, 0)
                        call(leap, 0, number)
                    else:
                        self.assertRaises(BadNumber, call, leap, number, 0)
                        self.assertRaises(BadNumber, call, leap, 0, number)

    def test_things_of_other_kinds(self):
        for call in (can_reach, free_fewest):
            for place, thing in enumerate(NO_NUMBERS):
                for leap in LEAPS:
                    with self.subTest(call=call.__name__, place=place):
                        self.assertRaises(BadNumber, call, leap, thing, 0)
                        self.assertRaises(BadNumber, call, leap, 0, thing)
                        self.assertRaises(BadNumber, call, leap, 1, thing)
                        self.assertRaises(BadNumber, call, leap, thing, thing)

    def test_true_and_false_are_no_numbers(self):
        for call in (can_reach, free_fewest):
            for thing in (True, False):
                self.assertRaises(BadNumber, call, (0, 1), thing, 0)
                self.assertRaises(BadNumber, call, (0, 1), 0, thing)

    def test_bad_leap_ahead_of_bad_number(self):
        for call in (can_reach, free_fewest):
            for place, thing in enumerate(NO_LEAPS):
                with self.subTest(call=call.__name__, place=place):
                    self.assertRaises(BadLeap, call, thing, 0, 0)
                    self.assertRaises(BadLeap, call, thing, 13, 0)
                    self.assertRaises(BadLeap, call, thing, 0, None)
                    self.assertRaises(BadLeap, call, thing, True, "0")


if __name__ == "__main__":
    unittest.main()
