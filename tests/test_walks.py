import time
import unittest

from leaperwalk.errors import TooBig
from leaperwalk.walks import cut_of, ring_walk, walk
from tests.samples import FLOORS, LEAPS, dense, grown, landings, near_table, scattered, small_floors, whole, without

KNIGHT = (1, 2)
SECONDS = 5


def goes_on(near, path, left, is_end):
    """Whether the path can be led over all cells that are left, tried out leap by leap."""
    if not left:
        return is_end(path[-1])
    return any(goes_on(near, path + [cell], left - {cell}, is_end) for cell in near[path[-1]] & left)


def has_walk(floor, leap):
    near = near_table(floor, leap)
    return any(goes_on(near, [cell], set(floor) - {cell}, lambda last: True) for cell in floor)


def has_ring_walk(floor, leap):
    near = near_table(floor, leap)
    first = floor[0]
    return len(floor) >= 3 and goes_on(near, [first], set(floor) - {first}, lambda last: first in near[last])


class Checks(unittest.TestCase):
    def check_steps(self, told, floor, leap):
        self.assertIs(type(told), list)
        self.assertEqual([type(cell) for cell in told], [tuple] * len(floor))
        self.assertEqual(sorted(told), list(floor), (floor, leap))
        for one, other in zip(told, told[1:]):
            self.assertIn(other, landings(leap, one), (floor, leap))

    def check_walk(self, floor, leap):
        told = walk(floor, leap)
        self.assertEqual(told is not None, has_walk(floor, leap), (floor, leap))
        if told is not None:
            self.check_steps(told, floor, leap)
        return told is not None

    def check_ring_walk(self, floor, leap):
        told = ring_walk(floor, leap)
        self.assertEqual(told is not None, has_ring_walk(floor, leap), (floor, leap))
        if told is not None:
            self.check_steps(told, floor, leap)
            self.assertGreaterEqual(len(told), 3)
            self.assertIn(told[0], landings(leap, told[-1]), (floor, leap))
        return told is not None

    def check_all(self, floors, leaps):
        walks = [self.check_walk(floor, leap) for floor in floors for leap in leaps]
        rings = [self.check_ring_walk(floor, leap) for floor in floors for leap in leaps]
        return walks, rings


class Walks(Checks):
    def test_known_knight_walks(self):
        for floor, is_there in (
            (whole(3, 3), False), (without(whole(3, 3), (1, 1)), True), (whole(3, 4), True), (whole(3, 5), False),
            (whole(4, 4), False), (whole(4, 3, 4, 5), True), (whole(2, 2), False), (whole(2, 8), False),
        ):
            self.assertEqual(self.check_walk(floor, KNIGHT), is_there, floor)

    def test_known_knight_ring_walks(self):
        for floor, is_there in (
            (whole(3, 3), False), (without(whole(3, 3), (1, 1)), True), (whole(3, 4), False), (whole(4, 4), False),
        ):
            self.assertEqual(self.check_ring_walk(floor, KNIGHT), is_there, floor)

    def test_one_cell_is_a_walk_and_no_ring_walk(self):
        for cell in ((0, 0), (0, 7), (7, 0), (7, 7), (3, 4)):
            for leap in LEAPS:
                self.assertEqual(walk((cell,), leap), [cell])
                self.assertIsNone(ring_walk((cell,), leap))

    def test_two_cells_are_no_ring_walk(self):
        for leap in LEAPS:
            near = ((0, 0), leap)
            self.assertIn(walk(near, leap), ([(0, 0), leap], [leap, (0, 0)]))
            self.assertIsNone(ring_walk(near, leap))
            apart = ((0, 0), (7, 6))
            self.assertIsNone(walk(apart, leap))
            self.assertIsNone(ring_walk(apart, leap))

    def test_three_cells_in_a_row_are_a_walk_and_no_ring_walk(self):
        for step in (1, 2, 3):
            row = ((5, 0), (5, step), (5, 2 * step))
            self.check_all([row], LEAPS)
            self.assertIn(walk(row, (0, step)), (list(row), list(reversed(row))))
            self.assertIsNone(ring_walk(row, (0, step)))
            self.assertIsNone(walk(((0, 0), (0, 1), (7, 7)), (0, step)))

    def test_the_smallest_ring_walks(self):
        for leap in LEAPS:
            less, more = leap
            if less < more:
                corners = ((0, 0), (less, more), (more, less), (less + more, less + more))
            elif less < 4:
                corners = ((0, less), (less, 0), (less, 2 * less), (2 * less, less))
            else:
                corners = ((0, 0), (0, 4), (4, 0), (4, 4))
            self.assertEqual(self.check_ring_walk(corners, leap), leap != (4, 4), leap)
            self.assertEqual(self.check_walk(corners, leap), leap != (4, 4), leap)

    def test_several_parts(self):
        for floor in (whole(2, 2) + whole(2, 2, 5, 5), ((0, 0), (0, 1), (0, 2), (3, 3)), ((0, 0), (3, 0), (3, 1))):
            self.assertIsNone(walk(floor, (0, 1)))
            self.assertIsNone(ring_walk(floor, (0, 1)))

    def test_a_ring_that_no_walk_closes(self):
        self.assertTrue(self.check_walk(whole(1, 8), (0, 1)))
        self.assertFalse(self.check_ring_walk(whole(1, 8), (0, 1)))
        self.assertTrue(self.check_walk(whole(3, 5), (0, 1)))
        self.assertFalse(self.check_ring_walk(whole(3, 5), (0, 1)))

    def test_small_floors(self):
        walks, rings = self.check_all(list(small_floors(3, 3)), [(0, 1), (1, 1), KNIGHT])
        self.assertEqual((set(walks), set(rings)), ({True, False}, {True, False}))
        self.check_all(list(small_floors(2, 4)), LEAPS)

    def test_all_floors_that_are_small_enough(self):
        self.check_all([floor for floor in FLOORS if len(floor) <= 16], LEAPS)

    def test_floors_with_many_leaps(self):
        for leap in LEAPS:
            floors = [grown(leap, count, seed) for count in range(1, 13) for seed in range(6)]
            floors += [dense(leap, count, start) for count in range(1, 14) for start in ((0, 0), (2, 3))]
            walks, rings = self.check_all(floors, [leap])
            self.assertEqual(set(walks), {True, False}, leap)
            self.assertIn(False, rings)
        self.check_all([scattered(count, count) for count in range(1, 17)], LEAPS)

    def test_told_lists_are_new(self):
        for call, floor, leap in (
            (walk, whole(3, 4), KNIGHT), (ring_walk, whole(4, 4), (0, 1)), (walk, ((0, 0),), KNIGHT),
        ):
            first = call(floor, leap)
            kept = list(first)
            first.clear()
            self.assertEqual(sorted(call(floor, leap)), sorted(kept))


class SixteenCells(Checks):
    def floors(self, leap):
        starts = ((0, 0), (0, 3), (3, 3), (7, 7))
        return [whole(4, 4), whole(2, 8), whole(8, 2, 0, 6), without(whole(3, 6), (0, 0), (2, 5))] + [
            dense(leap, 16, start) for start in starts
        ] + [grown(leap, 16, seed) for seed in range(4)]

    def test_walks_or_none_just_as_a_plain_search_tells(self):
        for leap in LEAPS:
            self.check_all(self.floors(leap), [leap])

    def test_no_walk_for_hues_of_unlike_sizes(self):
        for holes in (((0, 0), (2, 4)), ((0, 1), (2, 5))):
            floor = without(whole(3, 6), *holes)
            self.assertFalse(self.check_walk(floor, (0, 1)))
            self.assertFalse(self.check_ring_walk(floor, (0, 1)))

    def test_an_answer_in_good_time(self):
        for leap in LEAPS:
            for floor in self.floors(leap):
                for call in (walk, ring_walk):
                    began = time.process_time()
                    call(floor, leap)
                    self.assertLess(time.process_time() - began, SECONDS, (call.__name__, floor, leap))


class TooManyCells(unittest.TestCase):
    def test_too_big_just_beyond_16_cells(self):
        for leap in LEAPS:
            for call in (walk, ring_walk):
                for count in range(1, 17):
                    call(scattered(count, 2), leap)
                for count in range(17, 25):
                    self.assertRaises(TooBig, call, scattered(count, 2), leap)
                    self.assertRaises(TooBig, call, grown(leap, count, 3), leap)

    def test_too_big_for_whole_floors(self):
        for floor in (whole(3, 6), whole(3, 8), whole(4, 5), whole(4, 6), without(whole(3, 6), (0, 0))):
            self.assertRaises(TooBig, walk, floor, (0, 1))
            self.assertRaises(TooBig, ring_walk, floor, (0, 1))


class WalksAndCuts(unittest.TestCase):
    def test_where_a_cut_is_there_is_no_walk(self):
        for leap in LEAPS:
            for floor in [grown(leap, count, seed) for count in range(1, 10) for seed in range(5)]:
                self.assertTrue(walk(floor, leap) is None or cut_of(floor, leap, 1) is None, (floor, leap))
                self.assertTrue(ring_walk(floor, leap) is None or cut_of(floor, leap, 0) is None, (floor, leap))


if __name__ == "__main__":
    unittest.main()
