import functools
import unittest

from leaperwalk.leaps import hues_of
from leaperwalk.pairs import cover, most_pairs, paired, peaceful
from tests.samples import (
    FLOORS, LEAPS, dense, grown, landings, near_pairs, near_table, scattered, small_floors, whole, without,
)

KNIGHT = (1, 2)


def count_most_pairs(floor, leap):
    """How many pairs there can be, by leaving the first cell alone or pairing it with each near cell."""
    near = near_table(floor, leap)

    @functools.lru_cache(None)
    def most(cells):
        if not cells:
            return 0
        first = min(cells)
        rest = cells - {first}
        return max([most(rest)] + [1 + most(rest - {other}) for other in near[first] & rest])

    return most(frozenset(floor))


def check_floors(leap):
    for count in range(1, 25):
        for seed in range(3):
            yield grown(leap, count, seed)
    for count in range(2, 25, 2):
        yield dense(leap, count, (0, 0))
        yield scattered(count, count)
    yield from FLOORS


class Checks(unittest.TestCase):
    def check_pairs(self, told, floor, leap):
        self.assertIs(type(told), list)
        for pair in told:
            self.assertEqual((type(pair), len(pair)), (tuple, 2))
            self.assertLess(pair[0], pair[1])
            self.assertIn(pair[1], landings(leap, pair[0]), (floor, leap))
        self.assertEqual(told, sorted(told))
        cells = [cell for pair in told for cell in pair]
        self.assertEqual(len(cells), len(set(cells)))
        self.assertLessEqual(set(cells), set(floor))

    def check_cover(self, told, floor, leap, count):
        self.assertIs(type(told), list)
        self.assertEqual(told, sorted(set(told)))
        self.assertLessEqual(set(told), set(floor))
        self.assertEqual(len(told), count, (floor, leap))
        for one, other in near_pairs(floor, leap):
            self.assertTrue(one in told or other in told, (floor, leap))

    def check_peaceful(self, told, floor, leap, covering):
        self.assertIs(type(told), list)
        self.assertEqual(told, [cell for cell in floor if cell not in covering])
        for one, other in near_pairs(floor, leap):
            self.assertFalse(one in told and other in told, (floor, leap))

    def check_crowd(self, told, floor, leap):
        self.assertIs(type(told), list)
        self.assertEqual(told, sorted(set(told)))
        self.assertLessEqual(set(told), set(floor))
        evens, odds = hues_of(floor, leap)
        self.assertTrue(set(told) <= set(evens) or set(told) <= set(odds), (floor, leap))
        around = {other for cell in told for other in landings(leap, cell)} & set(floor)
        self.assertLess(len(around), len(told), (floor, leap))

    def check_paired(self, told, floor, leap, count):
        self.assertEqual((type(told), len(told)), (tuple, 2))
        if 2 * count == len(floor):
            self.assertEqual(told[0], "paired", (floor, leap))
            self.check_pairs(told[1], floor, leap)
            self.assertEqual(len(told[1]), count)
        else:
            self.assertEqual(told[0], "crowd", (floor, leap))
            self.check_crowd(told[1], floor, leap)
        return told[0]

    def check_all(self, floor, leap):
        # That a cover has as many cells as there are pairs shows both to be the utmost.
        pairs = most_pairs(floor, leap)
        self.check_pairs(pairs, floor, leap)
        covering = cover(floor, leap)
        self.check_cover(covering, floor, leap, len(pairs))
        self.check_peaceful(peaceful(floor, leap), floor, leap, covering)
        self.check_paired(paired(floor, leap), floor, leap, len(pairs))
        return len(pairs)


class KnownPairs(Checks):
    def test_one_cell(self):
        for leap in LEAPS:
            for cell in ((0, 0), (1, 0), (7, 7), (4, 3)):
                self.assertEqual(most_pairs((cell,), leap), [])
                self.assertEqual(cover((cell,), leap), [])
                self.assertEqual(peaceful((cell,), leap), [cell])
                self.assertEqual(paired((cell,), leap), ("crowd", [cell]))

    def test_two_near_cells(self):
        for leap in LEAPS:
            floor = ((0, 0), leap)
            self.assertEqual(most_pairs(floor, leap), [floor])
            self.assertEqual(paired(floor, leap), ("paired", [floor]))
            self.assertIn(cover(floor, leap), ([(0, 0)], [leap]))

    def test_two_cells_apart(self):
        for leap in LEAPS:
            floor = ((0, 0), (7, 6))
            self.assertEqual(most_pairs(floor, leap), [])
            self.assertEqual(cover(floor, leap), [])
            self.assertEqual(peaceful(floor, leap), list(floor))
            self.assertEqual(paired(floor, leap)[0], "crowd")

    def test_a_star_has_one_pair_and_its_middle_as_cover(self):
        star = ((0, 1), (1, 0), (1, 1), (1, 2), (2, 1))
        self.assertEqual(len(most_pairs(star, (0, 1))), 1)
        self.assertEqual(cover(star, (0, 1)), [(1, 1)])
        self.assertEqual(peaceful(star, (0, 1)), [(0, 1), (1, 0), (1, 2), (2, 1)])
        kind, crowd = paired(star, (0, 1))
        self.assertEqual(kind, "crowd")
        self.assertGreaterEqual(len(crowd), 2)
        self.assertNotIn((1, 1), crowd)

    def test_a_row_of_cells_is_paired_in_one_way(self):
        row = tuple((0, column) for column in range(8))
        ends_first = [((0, 0), (0, 1)), ((0, 2), (0, 3)), ((0, 4), (0, 5)), ((0, 6), (0, 7))]
        self.assertEqual(most_pairs(row, (0, 1)), ends_first)
        self.assertEqual(paired(row, (0, 1)), ("paired", ends_first))

    def test_a_floor_with_two_holes_of_one_hue_is_not_paired(self):
        floor = without(whole(4, 4), (0, 0), (3, 3))
        self.assertEqual(len(most_pairs(floor, (0, 1))), 6)
        self.assertEqual(paired(floor, (0, 1))[0], "crowd")
        self.assertEqual(paired(without(whole(4, 4), (0, 0), (3, 2)), (0, 1))[0], "paired")

    def test_a_crowd_of_either_hue(self):
        for floor, hue in ((((0, 0), (0, 1), (0, 2)), 0), (((0, 1), (0, 2), (0, 3)), 1)):
            kind, crowd = paired(floor, (0, 1))
            self.assertEqual(kind, "crowd")
            self.assertEqual(crowd, [floor[0], floor[2]])
            self.assertLessEqual(set(crowd), set(hues_of(floor, (0, 1))[hue]))

    def test_hues_of_like_sizes_and_yet_a_crowd(self):
        floor = ((0, 0), (0, 1), (0, 2), (5, 4))
        self.assertEqual([len(hue) for hue in hues_of(floor, (0, 1))], [2, 2])
        kind, crowd = paired(floor, (0, 1))
        self.assertEqual(kind, "crowd")
        self.check_crowd(crowd, floor, (0, 1))

    def test_knights_on_whole_floors(self):
        self.assertEqual(len(most_pairs(whole(4, 6), KNIGHT)), 12)
        self.assertEqual(paired(whole(4, 6), KNIGHT)[0], "paired")
        self.assertEqual(len(peaceful(whole(3, 3), KNIGHT)), 5)
        self.assertEqual(paired(whole(3, 3), KNIGHT)[0], "crowd")


class Pairs(Checks):
    def test_floors_up_to_24_cells(self):
        for leap in LEAPS:
            kinds = set()
            for floor in check_floors(leap):
                count = self.check_all(floor, leap)
                kinds.add(2 * count == len(floor))
            self.assertEqual(kinds, {True, False}, leap)

    def test_small_floors_against_a_plain_search(self):
        for floor in small_floors(3, 3):
            for leap in ((0, 1), (1, 1), (0, 2), KNIGHT, (2, 2)):
                self.assertEqual(self.check_all(floor, leap), count_most_pairs(floor, leap), (floor, leap))
        for floor in small_floors(2, 5):
            self.assertEqual(self.check_all(floor, (0, 1)), count_most_pairs(floor, (0, 1)), floor)

    def test_floors_with_many_leaps_against_a_plain_search(self):
        for leap in LEAPS:
            for count in range(1, 13):
                for seed in range(4):
                    floor = grown(leap, count, seed)
                    self.assertEqual(len(most_pairs(floor, leap)), count_most_pairs(floor, leap), (floor, leap))

    def test_told_lists_are_new(self):
        for floor in (whole(4, 6), whole(3, 3)):
            for call in (most_pairs, cover, peaceful, lambda floor, leap: paired(floor, leap)[1]):
                first = call(floor, KNIGHT)
                kept = list(first)
                first.clear()
                self.assertEqual(call(floor, KNIGHT), kept)


if __name__ == "__main__":
    unittest.main()
