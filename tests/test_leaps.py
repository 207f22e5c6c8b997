import unittest

from leaperwalk.errors import BadFloor, BadLeap, NoCell
from leaperwalk.leaps import hues_of, near_cells, parts_of
from tests.samples import (
    FLOORS, LEAPS, NO_CELLS, NO_FLOORS, NO_LEAPS, distances, landings, near_pairs, scattered, small_floors, whole,
    without,
)

KNIGHT = (1, 2)


class NearCells(unittest.TestCase):
    def test_knight_on_three_rows_of_three(self):
        self.assertEqual(near_cells(whole(3, 3), KNIGHT, (0, 0)), [(1, 2), (2, 1)])
        self.assertEqual(near_cells(whole(3, 3), KNIGHT, (1, 1)), [])

    def test_knight_amid_five_rows_of_five(self):
        floor = without(whole(5, 5), (0, 0))
        self.assertEqual(
            near_cells(floor, KNIGHT, (2, 2)),
            [(0, 1), (0, 3), (1, 0), (1, 4), (3, 0), (3, 4), (4, 1), (4, 3)],
        )

    def test_straight_and_slanting_leaps(self):
        floor = without(whole(5, 5), (0, 0))
        self.assertEqual(near_cells(floor, (0, 1), (2, 2)), [(1, 2), (2, 1), (2, 3), (3, 2)])
        self.assertEqual(near_cells(floor, (2, 2), (2, 2)), [(0, 4), (4, 0), (4, 4)])
        self.assertEqual(near_cells(floor, (0, 4), (0, 4)), [(4, 4)])
        self.assertEqual(near_cells(floor, (4, 4), (0, 4)), [(4, 0)])
        self.assertEqual(near_cells(((0, 0), (3, 4), (4, 3), (4, 4)), (3, 4), (0, 0)), [(3, 4), (4, 3)])

    def test_holes_do_not_hinder_and_are_not_told(self):
        self.assertEqual(near_cells(((0, 0), (2, 1)), KNIGHT, (0, 0)), [(2, 1)])
        self.assertEqual(near_cells(((0, 0), (0, 4)), (0, 4), (0, 4)), [(0, 0)])

    def test_the_floor_does_not_wrap_around(self):
        corners = ((0, 0), (0, 7), (7, 0), (7, 7))
        for leap in LEAPS:
            for cell in corners:
                self.assertEqual(near_cells(corners, leap, cell), [])

    def test_all_near_cells_rising(self):
        for floor in FLOORS + list(small_floors(2, 4)):
            for leap in LEAPS:
                for cell in floor:
                    told = near_cells(floor, leap, cell)
                    self.assertIs(type(told), list)
                    self.assertEqual(told, sorted(landings(leap, cell) & set(floor)), (floor, leap, cell))

    def test_near_goes_both_ways(self):
        for floor in FLOORS:
            for leap in LEAPS:
                for one in floor:
                    for other in near_cells(floor, leap, one):
                        self.assertIn(one, near_cells(floor, leap, other))

    def test_told_lists_are_new(self):
        told = near_cells(whole(3, 4), KNIGHT, (0, 0))
        told.clear()
        self.assertEqual(near_cells(whole(3, 4), KNIGHT, (0, 0)), [(1, 2), (2, 1)])

    def test_what_is_no_cell_is_refused(self):
        floor = whole(4, 6)
        for place, thing in enumerate(NO_CELLS):
            with self.subTest(place=place):
                self.assertRaises(NoCell, near_cells, floor, KNIGHT, thing)

    def test_cells_beside_the_floor_are_refused(self):
        floor = scattered(20, 5)
        for cell in whole(8, 8):
            if cell not in floor:
                self.assertRaises(NoCell, near_cells, floor, KNIGHT, cell)

    def test_the_refusal_named_first_is_told(self):
        for place, thing in enumerate(NO_FLOORS):
            with self.subTest(no_floor=place):
                self.assertRaises(BadFloor, near_cells, thing, KNIGHT, (0, 0))
                self.assertRaises(BadFloor, near_cells, thing, None, (0, 0))
                self.assertRaises(BadFloor, near_cells, thing, KNIGHT, None)
                self.assertRaises(BadFloor, near_cells, thing, (2, 1), [9])
        for place, thing in enumerate(NO_LEAPS):
            with self.subTest(no_leap=place):
                self.assertRaises(BadLeap, near_cells, ((0, 0),), thing, (0, 0))
                self.assertRaises(BadLeap, near_cells, ((0, 0),), thing, (0, 1))
                self.assertRaises(BadLeap, near_cells, ((0, 0),), thing, None)


class BothRefuse(unittest.TestCase):
    def test_bad_floor_ahead_of_bad_leap(self):
        for call in (parts_of, hues_of):
            for place, thing in enumerate(NO_FLOORS):
                with self.subTest(call=call.__name__, no_floor=place):
                    self.assertRaises(BadFloor, call, thing, KNIGHT)
                    self.assertRaises(BadFloor, call, thing, None)
                    self.assertRaises(BadFloor, call, thing, (2, 1))

    def test_bad_leap(self):
        for call in (parts_of, hues_of):
            for place, thing in enumerate(NO_LEAPS):
                with self.subTest(call=call.__name__, no_leap=place):
                    self.assertRaises(BadLeap, call, ((0, 0),), thing)
                    self.assertRaises(BadLeap, call, whole(4, 6), thing)


class Parts(unittest.TestCase):
    def test_knight_on_three_rows_of_three(self):
        ring = [cell for cell in whole(3, 3) if cell != (1, 1)]
        self.assertEqual(parts_of(whole(3, 3), KNIGHT), [ring, [(1, 1)]])
        self.assertEqual(parts_of(tuple(ring), KNIGHT), [ring])

    def test_one_cell(self):
        self.assertEqual(parts_of(((7, 7),), KNIGHT), [[(7, 7)]])

    def test_parts_are_not_lost_among_one_another(self):
        self.assertEqual(
            parts_of(((0, 0), (0, 1), (0, 2), (0, 3), (0, 5)), (0, 2)),
            [[(0, 0), (0, 2)], [(0, 1), (0, 3), (0, 5)]],
        )

    def test_leaps_within_the_floor_alone_join(self):
        self.assertEqual(parts_of(((0, 0), (0, 2)), (0, 1)), [[(0, 0)], [(0, 2)]])

    def test_parts_against_distances(self):
        for floor in FLOORS + list(small_floors(2, 4)):
            for leap in LEAPS:
                joined = distances(floor, leap)
                lists = {tuple(other for other in floor if (one, other) in joined) for one in floor}
                told = parts_of(floor, leap)
                self.assertEqual(told, [list(part) for part in sorted(lists)], (floor, leap))

    def test_each_cell_in_just_one_rising_part(self):
        for floor in FLOORS:
            for leap in LEAPS:
                told = parts_of(floor, leap)
                self.assertIs(type(told), list)
                self.assertTrue(all(type(part) is list and part == sorted(part) for part in told))
                self.assertEqual(sorted(sum(told, [])), list(floor))
                firsts = [part[0] for part in told]
                self.assertEqual(firsts, sorted(firsts))

    def test_told_lists_are_new(self):
        first = parts_of(whole(3, 4), (0, 2))
        kept = [list(part) for part in first]
        for part in first:
            part.clear()
        first.clear()
        self.assertEqual(parts_of(whole(3, 4), (0, 2)), kept)


class Hues(unittest.TestCase):
    def test_odd_sum(self):
        even = [(0, 0), (0, 2), (1, 1), (2, 0), (2, 2)]
        odd = [(0, 1), (1, 0), (1, 2), (2, 1)]
        for leap in ((0, 1), (1, 2), (2, 3), (1, 4), (3, 4)):
            self.assertEqual(hues_of(whole(3, 3), leap), [even, odd])

    def test_even_sum(self):
        floor = whole(3, 2)
        for leap in ((1, 1), (1, 3)):
            self.assertEqual(hues_of(floor, leap), [[(0, 0), (0, 1), (2, 0), (2, 1)], [(1, 0), (1, 1)]])

    def test_a_divisor_of_two(self):
        row = tuple((1, column) for column in range(8))
        self.assertEqual(
            hues_of(row, (0, 2)),
            [[(1, 0), (1, 1), (1, 4), (1, 5)], [(1, 2), (1, 3), (1, 6), (1, 7)]],
        )
        self.assertEqual(hues_of(row, (2, 4)), hues_of(row, (0, 2)))
        self.assertEqual(hues_of(row, (2, 2)), [list(row), []])
        column = tuple((row, 7) for row in range(8))
        self.assertEqual(
            hues_of(column, (2, 2)),
            [[(0, 7), (1, 7), (4, 7), (5, 7)], [(2, 7), (3, 7), (6, 7), (7, 7)]],
        )

    def test_divisors_of_three_and_four(self):
        column = tuple((row, 0) for row in range(8))
        for leap in ((0, 3), (3, 3)):
            self.assertEqual(hues_of(column, leap)[1], [(3, 0), (4, 0), (5, 0)])
        for leap in ((0, 4), (4, 4)):
            self.assertEqual(hues_of(column, leap)[1], [(4, 0), (5, 0), (6, 0), (7, 0)])
        self.assertEqual(hues_of(((3, 3), (3, 6), (4, 7)), (0, 3)), [[(3, 3)], [(3, 6), (4, 7)]])

    def test_a_hue_of_no_cell_is_an_empty_list(self):
        self.assertEqual(hues_of(((0, 0),), KNIGHT), [[(0, 0)], []])
        self.assertEqual(hues_of(((7, 0),), KNIGHT), [[], [(7, 0)]])

    def test_each_cell_has_one_hue_in_rising_lists(self):
        for floor in FLOORS:
            for leap in LEAPS:
                told = hues_of(floor, leap)
                self.assertIs(type(told), list)
                self.assertEqual([type(hue) for hue in told], [list, list])
                self.assertEqual(told, [sorted(hue) for hue in told])
                self.assertEqual(sorted(told[0] + told[1]), list(floor))

    def test_near_cells_have_unlike_hues(self):
        for floor in FLOORS:
            for leap in LEAPS:
                evens = hues_of(floor, leap)[0]
                for one, other in near_pairs(floor, leap):
                    self.assertNotEqual(one in evens, other in evens, (leap, one, other))

    def test_near_cells_anywhere_have_unlike_hues(self):
        for leap in LEAPS:
            for one, other in near_pairs(whole(8, 8), leap):
                self.assertEqual([len(hue) for hue in hues_of(tuple(sorted((one, other))), leap)], [1, 1])

    def test_the_hue_hangs_on_the_cell_alone(self):
        for leap in LEAPS:
            for floor in FLOORS:
                for hue, cells in enumerate(hues_of(floor, leap)):
                    for cell in cells:
                        self.assertEqual(hues_of((cell,), leap)[hue], [cell])

    def test_told_lists_are_new(self):
        first = hues_of(whole(3, 4), KNIGHT)
        kept = [list(hue) for hue in first]
        first[0].clear()
        first[1].clear()
        first.clear()
        self.assertEqual(hues_of(whole(3, 4), KNIGHT), kept)


if __name__ == "__main__":
    unittest.main()
