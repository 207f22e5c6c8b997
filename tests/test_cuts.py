import itertools
import unittest

from leaperwalk.errors import BadFloor, BadLeap, BadNumber, TooBig
from leaperwalk.walks import cut_of
from tests.samples import (
    FLOORS, LEAPS, NO_SPARES, dense, grown, landings, scattered, small_floors, whole, without,
)

KNIGHT = (1, 2)


def count_parts(cells, leap):
    """How many parts there are, by joining groups of cells, one cell after another."""
    groups = []
    for cell in cells:
        met = [group for group in groups if group & landings(leap, cell)]
        groups = [group for group in groups if group not in met] + [set().union({cell}, *met)]
    return len(groups)


def serves(floor, leap, spare, cut):
    parts = count_parts([cell for cell in floor if cell not in cut], leap)
    if spare == 1:
        return parts > len(cut) + 1
    return parts > len(cut) and parts > 1


def first_cut(floor, leap, spare):
    """Through all sets of cells: those that serve, by size and then as lists."""
    for size in range(len(floor) + 1):
        serving = [list(cut) for cut in itertools.combinations(floor, size) if serves(floor, leap, spare, cut)]
        if serving:
            return min(serving)
    return None


class Cuts(unittest.TestCase):
    def check_cuts(self, floor, leap):
        sizes = []
        for spare in (0, 1):
            told = cut_of(floor, leap, spare)
            self.assertEqual(told, first_cut(floor, leap, spare), (floor, leap, spare))
            if told is not None:
                self.assertIs(type(told), list)
                self.assertTrue(all(type(cell) is tuple and cell in floor for cell in told))
                self.assertEqual(told, sorted(told))
            sizes.append(None if told is None else len(told))
        return sizes

    def test_known_cuts(self):
        self.assertEqual(cut_of(whole(3, 3), (0, 1), 0), [(0, 1), (1, 0), (1, 2), (2, 1)])
        self.assertIsNone(cut_of(whole(3, 3), (0, 1), 1))
        self.assertEqual(cut_of(((0, 0), (0, 1), (0, 2)), (0, 1), 0), [(0, 1)])
        self.assertIsNone(cut_of(((0, 0), (0, 1), (0, 2)), (0, 1), 1))
        cross = ((0, 1), (1, 0), (1, 1), (1, 2), (2, 1))
        self.assertEqual(cut_of(cross, (0, 1), 0), [(1, 1)])
        self.assertEqual(cut_of(cross, (0, 1), 1), [(1, 1)])
        self.assertEqual(cut_of(without(cross, (2, 1)), (0, 1), 1), [(1, 1)])
        self.assertIsNone(cut_of(without(cross, (2, 1), (0, 1)), (0, 1), 1))

    def test_an_empty_cut_where_the_floor_has_parts_enough(self):
        self.assertEqual(cut_of(whole(3, 3), KNIGHT, 0), [])
        self.assertEqual(cut_of(whole(3, 3), KNIGHT, 1), [])
        for leap in LEAPS:
            for spare in (0, 1):
                self.assertEqual(cut_of(((0, 0), (7, 7)), leap, spare), [])
                self.assertEqual(cut_of(((0, 0), (0, 7), (7, 0), (7, 7)), leap, spare), [])

    def test_one_cell_and_two_near_cells_have_no_cut(self):
        for leap in LEAPS:
            for spare in (0, 1):
                self.assertIsNone(cut_of(((3, 3),), leap, spare))
                self.assertIsNone(cut_of(((0, 0), leap), leap, spare))

    def test_of_several_the_first_as_a_list(self):
        row = tuple((4, column) for column in range(8))
        self.assertEqual(cut_of(row, (0, 1), 0), [(4, 1)])
        self.assertIsNone(cut_of(row, (0, 1), 1))
        comb = ((0, 0), (0, 1), (0, 2), (0, 3), (0, 4), (1, 1), (1, 3))
        self.assertEqual(cut_of(comb, (0, 1), 1), [(0, 1)])

    def test_fewest_cells_ahead_of_the_first_as_a_list(self):
        found = [self.check_cuts(floor, (0, 1)) for floor in small_floors(3, 3)]
        self.assertEqual({size for sizes in found for size in sizes}, {None, 0, 1, 2, 3, 4})

    def test_small_floors(self):
        for floor in small_floors(2, 4):
            for leap in LEAPS:
                if leap[1] < 4:
                    self.check_cuts(floor, leap)
        for floor in small_floors(3, 3):
            self.check_cuts(floor, KNIGHT)

    def test_floors_that_are_small_enough(self):
        for floor in FLOORS:
            if len(floor) <= 9:
                for leap in LEAPS:
                    self.check_cuts(floor, leap)

    def test_floors_with_many_leaps(self):
        for leap in LEAPS:
            for count in range(1, 10):
                for floor in [grown(leap, count, seed) for seed in range(5)] + [dense(leap, count, (1, 2))]:
                    self.check_cuts(floor, leap)

    def test_told_lists_are_new(self):
        for floor in (whole(3, 3), ((0, 0), (7, 7))):
            first = cut_of(floor, (0, 1), 0)
            kept = list(first)
            first.append("more")
            self.assertEqual(cut_of(floor, (0, 1), 0), kept)


class Refusals(unittest.TestCase):
    def test_too_big_just_beyond_9_cells(self):
        for leap in LEAPS:
            for spare in (0, 1):
                for count in range(1, 10):
                    cut_of(scattered(count, 4), leap, spare)
                for count in range(10, 25):
                    self.assertRaises(TooBig, cut_of, scattered(count, 4), leap, spare)
                    self.assertRaises(TooBig, cut_of, grown(leap, count, 4), leap, spare)

    def test_too_big_where_an_empty_cut_would_do(self):
        self.assertRaises(TooBig, cut_of, whole(2, 5), (4, 4), 1)
        self.assertRaises(TooBig, cut_of, whole(2, 5), (4, 4), 0)

    def test_a_spare_that_is_neither(self):
        for floor in (((0, 0),), whole(3, 3), scattered(9, 1)):
            for place, thing in enumerate(NO_SPARES):
                with self.subTest(place=place):
                    self.assertRaises(BadNumber, cut_of, floor, (0, 1), thing)

    def test_true_and_false_are_no_spares(self):
        for leap in LEAPS:
            self.assertRaises(BadNumber, cut_of, whole(3, 3), leap, True)
            self.assertRaises(BadNumber, cut_of, whole(3, 3), leap, False)

    def test_the_order_of_the_refusals(self):
        for spare in [0, 1] + NO_SPARES:
            self.assertRaises(BadFloor, cut_of, (), (2, 1), spare)
            self.assertRaises(BadFloor, cut_of, scattered(25, 1), (0, 1), spare)
            self.assertRaises(BadLeap, cut_of, scattered(10, 1), (2, 1), spare)
            self.assertRaises(BadLeap, cut_of, whole(3, 3), (0, 5), spare)
            self.assertRaises(TooBig, cut_of, scattered(10, 1), (0, 1), spare)
            self.assertRaises(TooBig, cut_of, scattered(24, 1), (0, 1), spare)


if __name__ == "__main__":
    unittest.main()
