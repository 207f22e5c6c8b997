import unittest

from leaperwalk.errors import BadFloor, BadLeap
from leaperwalk.floors import checked, checked_leap
from tests.samples import FLOORS, LEAPS, NO_FLOORS, NO_LEAPS, scattered, small_floors, whole


class Floors(unittest.TestCase):
    def test_floors_are_told_as_they_are(self):
        for floor in FLOORS:
            with self.subTest(floor=floor):
                told = checked(floor)
                self.assertIs(type(told), tuple)
                self.assertEqual(told, floor)

    def test_small_floors_with_all_holes(self):
        for floor in small_floors(2, 4):
            self.assertEqual(checked(floor), floor)

    def test_each_single_cell_is_a_floor(self):
        for cell in whole(8, 8):
            with self.subTest(cell=cell):
                self.assertEqual(checked((cell,)), (cell,))

    def test_24_cells_are_a_floor_and_25_are_none(self):
        for count in range(1, 25):
            self.assertEqual(len(checked(scattered(count, 3))), count)
        for count in range(25, 65):
            with self.assertRaises(BadFloor):
                checked(scattered(count, 3))

    def test_numbers_from_0_to_7_alone(self):
        for row in range(-3, 12):
            for column in range(-3, 12):
                with self.subTest(row=row, column=column):
                    floor = ((row, column),)
                    if 0 <= row <= 7 and 0 <= column <= 7:
                        self.assertEqual(checked(floor), floor)
                    else:
                        self.assertRaises(BadFloor, checked, floor)

    def test_any_two_cells_are_a_floor_just_if_they_rise(self):
        cells = whole(8, 8)
        for place, one in enumerate(cells):
            for other_place, other in enumerate(cells):
                if place < other_place:
                    self.assertEqual(checked((one, other)), (one, other))
                else:
                    with self.assertRaises(BadFloor):
                        checked((one, other))

    def test_what_is_no_floor_is_refused(self):
        for place, thing in enumerate(NO_FLOORS):
            with self.subTest(place=place):
                self.assertRaises(BadFloor, checked, thing)

    def test_one_wrong_cell_in_any_place_is_refused(self):
        floor = list(whole(4, 6))
        for place, cell in enumerate(floor):
            for wrong in (list(cell), cell + (0,), cell[:1], (cell[0], True), (-1, cell[1]), (cell[0], 8), None):
                with self.subTest(place=place, wrong=wrong):
                    self.assertRaises(BadFloor, checked, tuple(floor[:place] + [wrong] + floor[place + 1:]))

    def test_a_refused_list_is_unchanged(self):
        thing = [[0, 1], (0, 0)]
        self.assertRaises(BadFloor, checked, thing)
        self.assertEqual(thing, [[0, 1], (0, 0)])


class Leaps(unittest.TestCase):
    def test_leaps_are_told_as_they_are(self):
        self.assertEqual(len(LEAPS), 14)
        for leap in LEAPS:
            with self.subTest(leap=leap):
                told = checked_leap(leap)
                self.assertIs(type(told), tuple)
                self.assertEqual(told, leap)

    def test_numbers_within_their_bounds_alone(self):
        for less in range(-6, 8):
            for more in range(-6, 8):
                with self.subTest(less=less, more=more):
                    if (less, more) in LEAPS:
                        self.assertEqual(checked_leap((less, more)), (less, more))
                    else:
                        self.assertRaises(BadLeap, checked_leap, (less, more))

    def test_what_is_no_leap_is_refused(self):
        for place, thing in enumerate(NO_LEAPS):
            with self.subTest(place=place):
                self.assertRaises(BadLeap, checked_leap, thing)

    def test_a_refused_list_is_unchanged(self):
        thing = [2, 1]
        self.assertRaises(BadLeap, checked_leap, thing)
        self.assertEqual(thing, [2, 1])


if __name__ == "__main__":
    unittest.main()
