"""Point [1]: nothing handed in is changed, nothing is kept between calls, lists that are told are new ones."""

import copy
import unittest

from leaperwalk.errors import LeapError
from leaperwalk.floors import checked, checked_leap
from leaperwalk.leaps import hues_of, near_cells, parts_of
from leaperwalk.ways import a_way, fewest
from tests.samples import FLOORS, LEAPS


def all_told(floor, leap):
    one, other = floor[0], floor[-1]
    return [
        near_cells(floor, leap, one),
        parts_of(floor, leap),
        hues_of(floor, leap),
        fewest(floor, leap, one, other),
        a_way(floor, leap, one, other),
    ]


def empty_lists(told):
    for thing in told:
        if isinstance(thing, list):
            empty_lists(thing)
    told.clear()


class PointOne(unittest.TestCase):
    def test_the_same_is_told_again_whatever_was_asked_or_emptied_between(self):
        asked = [(floor, leap) for floor in FLOORS for leap in LEAPS]
        first = [all_told(floor, leap) for floor, leap in asked]
        kept = copy.deepcopy(first)
        empty_lists(first)
        again = [all_told(floor, leap) for floor, leap in reversed(asked)]
        self.assertEqual(list(reversed(again)), kept)

    def test_no_told_list_is_told_twice(self):
        for floor in FLOORS:
            for first, again in zip(all_told(floor, (0, 2)), all_told(floor, (0, 2))):
                if isinstance(first, list):
                    self.assertIsNot(first, again)
                    for part in first:
                        if isinstance(part, list):
                            self.assertFalse(any(part is other for other in again))

    def test_a_refusal_leaves_nothing_behind(self):
        kept = all_told(FLOORS[5], (1, 2))
        self.assertRaises(LeapError, near_cells, FLOORS[5], (1, 2), (7, 7))
        self.assertRaises(LeapError, parts_of, FLOORS[5], (2, 1))
        self.assertRaises(LeapError, hues_of, FLOORS[5] + ((0, 0),), (1, 2))
        self.assertEqual(all_told(FLOORS[5], (1, 2)), kept)

    def test_what_is_handed_in_is_unchanged(self):
        for floor in FLOORS:
            for leap in LEAPS:
                handed, handed_leap = copy.deepcopy((floor, leap))
                all_told(handed, handed_leap)
                self.assertEqual((handed, handed_leap), (floor, leap))

    def test_what_is_refused_is_unchanged(self):
        floor, leap, cell = [[0, 1], [0, 0]], [2, 1], [0, 0]
        calls = [
            (checked, (floor,)), (checked, ((floor, (0, 0)),)), (checked_leap, (leap,)), (checked_leap, ((leap, 2),)),
            (near_cells, (floor, leap, cell)), (near_cells, (FLOORS[5], (1, 2), cell)),
            (parts_of, (floor, leap)), (parts_of, (FLOORS[5], leap)),
            (hues_of, (floor, leap)), (hues_of, (FLOORS[5], leap)),
            (fewest, (floor, leap, cell, cell)), (fewest, (FLOORS[5], (1, 2), (0, 0), cell)),
            (a_way, (floor, leap, cell, cell)), (a_way, (FLOORS[5], (1, 2), cell, (0, 0))),
        ]
        for call, handed in calls:
            self.assertRaises(LeapError, call, *handed)
            self.assertEqual((floor, leap, cell), ([[0, 1], [0, 0]], [2, 1], [0, 0]))


if __name__ == "__main__":
    unittest.main()
