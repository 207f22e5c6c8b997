import unittest

from leaperwalk.errors import BadFloor, BadLeap, NoCell
from leaperwalk.ways import a_way, fewest
from tests.samples import FLOORS, LEAPS, NO_CELLS, NO_FLOORS, NO_LEAPS, distances, landings, small_floors, whole, without

KNIGHT = (1, 2)


class Ways(unittest.TestCase):
    def check_way(self, floor, leap, one, other, length):
        told = fewest(floor, leap, one, other)
        way = a_way(floor, leap, one, other)
        if length is None:
            self.assertIsNone(told)
            self.assertIsNone(way)
            return
        self.assertIs(type(told), int)
        self.assertEqual(told, length, (floor, leap, one, other))
        self.assertIs(type(way), list)
        self.assertEqual(len(way), length + 1)
        self.assertEqual((way[0], way[-1]), (one, other))
        for place, cell in enumerate(way):
            self.assertIs(type(cell), tuple)
            self.assertIn(cell, floor)
            if place > 0:
                self.assertIn(cell, landings(leap, way[place - 1]))

    def check_floor(self, floor, leap):
        lengths = distances(floor, leap)
        for one in floor:
            for other in floor:
                self.check_way(floor, leap, one, other, lengths.get((one, other)))

    def test_knight_around_three_rows_of_three(self):
        floor = whole(3, 3)
        self.assertEqual(fewest(floor, KNIGHT, (0, 0), (0, 1)), 3)
        self.assertEqual(fewest(floor, KNIGHT, (0, 0), (2, 2)), 4)
        self.assertEqual(a_way(floor, KNIGHT, (0, 0), (0, 1)), [(0, 0), (1, 2), (2, 0), (0, 1)])

    def test_one_leap(self):
        self.assertEqual(fewest(whole(3, 3), KNIGHT, (0, 0), (2, 1)), 1)
        self.assertEqual(a_way(whole(3, 3), KNIGHT, (0, 0), (2, 1)), [(0, 0), (2, 1)])

    def test_from_a_cell_to_itself(self):
        for floor in FLOORS:
            for leap in LEAPS:
                for cell in floor:
                    self.check_way(floor, leap, cell, cell, 0)
        self.assertEqual(a_way(whole(3, 3), KNIGHT, (1, 1), (1, 1)), [(1, 1)])

    def test_where_no_way_leads(self):
        for one, other in (((0, 0), (1, 1)), ((1, 1), (0, 0))):
            self.check_way(whole(3, 3), KNIGHT, one, other, None)
        self.check_way(((0, 0), (7, 7)), (4, 4), (0, 0), (7, 7), None)

    def test_a_hole_makes_the_way_longer(self):
        self.assertEqual(fewest(whole(3, 3), (0, 1), (1, 0), (1, 2)), 2)
        self.assertEqual(fewest(without(whole(3, 3), (1, 1)), (0, 1), (1, 0), (1, 2)), 4)

    def test_a_long_way(self):
        snake = tuple(sorted(
            [(0, column) for column in range(8)] + [(1, 7)] + [(2, column) for column in range(8)] + [(3, 0)]
            + [(4, column) for column in range(6)]
        ))
        self.assertEqual(len(snake), 24)
        self.check_way(snake, (0, 1), (0, 0), (4, 5), 23)
        self.check_way(snake, (0, 1), (4, 5), (0, 0), 23)

    def test_floors_against_distances(self):
        for floor in FLOORS:
            for leap in LEAPS:
                self.check_floor(floor, leap)

    def test_small_floors_against_distances(self):
        for floor in small_floors(2, 4):
            for leap in LEAPS:
                self.check_floor(floor, leap)

    def test_as_many_leaps_the_other_way_round(self):
        for floor in FLOORS:
            for leap in LEAPS:
                for one in floor[::3]:
                    for other in floor[::2]:
                        self.assertEqual(fewest(floor, leap, one, other), fewest(floor, leap, other, one))

    def test_told_lists_are_new(self):
        for one, other in (((0, 0), (0, 1)), ((0, 0), (0, 0))):
            first = a_way(whole(3, 3), KNIGHT, one, other)
            kept = list(first)
            first.clear()
            self.assertEqual(a_way(whole(3, 3), KNIGHT, one, other), kept)


class Refusals(unittest.TestCase):
    def test_what_is_no_cell_in_either_place(self):
        floor = whole(4, 6)
        for call in (fewest, a_way):
            for place, thing in enumerate(NO_CELLS + [(4, 0), (0, 6), (7, 7)]):
                with self.subTest(call=call.__name__, place=place):
                    self.assertRaises(NoCell, call, floor, KNIGHT, thing, (0, 0))
                    self.assertRaises(NoCell, call, floor, KNIGHT, (0, 0), thing)
                    self.assertRaises(NoCell, call, floor, KNIGHT, thing, thing)

    def test_bad_leap_ahead_of_no_cell(self):
        for call in (fewest, a_way):
            for place, thing in enumerate(NO_LEAPS):
                with self.subTest(call=call.__name__, place=place):
                    self.assertRaises(BadLeap, call, ((0, 0),), thing, (0, 0), (0, 0))
                    self.assertRaises(BadLeap, call, ((0, 0),), thing, None, (0, 0))
                    self.assertRaises(BadLeap, call, ((0, 0),), thing, (0, 0), (1, 0))

    def test_bad_floor_ahead_of_all(self):
        for call in (fewest, a_way):
            for place, thing in enumerate(NO_FLOORS):
                with self.subTest(call=call.__name__, place=place):
                    self.assertRaises(BadFloor, call, thing, KNIGHT, (0, 0), (0, 0))
                    self.assertRaises(BadFloor, call, thing, None, (0, 0), (0, 0))
                    self.assertRaises(BadFloor, call, thing, KNIGHT, None, (0, 0))
                    self.assertRaises(BadFloor, call, thing, (2, 1), (0, 0), [9])


if __name__ == "__main__":
    unittest.main()
