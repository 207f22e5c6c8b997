"""Point [1]: nothing handed in is changed, nothing is kept between calls, lists that are told are new ones."""

import copy
import unittest

from leaperwalk.endless import can_reach, free_fewest
from leaperwalk.errors import LeapError
from leaperwalk.floors import checked, checked_leap
from leaperwalk.leaps import hues_of, near_cells, parts_of
from leaperwalk.pairs import cover, most_pairs, paired, peaceful
from leaperwalk.texts import read, shown
from leaperwalk.walks import cut_of, ring_walk, walk
from leaperwalk.ways import a_way, fewest
from tests.samples import FLOORS, LEAPS


def walks_told(floor, leap):
    told = []
    if len(floor) <= 16:
        told += [walk(floor, leap), ring_walk(floor, leap)]
    if len(floor) <= 9:
        told += [cut_of(floor, leap, 0), cut_of(floor, leap, 1)]
    return told


def all_told(floor, leap):
    one, other = floor[0], floor[-1]
    return [
        near_cells(floor, leap, one),
        parts_of(floor, leap),
        hues_of(floor, leap),
        fewest(floor, leap, one, other),
        a_way(floor, leap, one, other),
        most_pairs(floor, leap),
        cover(floor, leap),
        peaceful(floor, leap),
        paired(floor, leap),
        can_reach(leap, *one),
        free_fewest(leap, *other),
        shown(floor),
        read(shown(floor)),
    ] + walks_told(floor, leap)


def lists_in(told):
    """All lists that are told, also those within lists and tuples."""
    if not isinstance(told, (list, tuple)):
        return []
    found = [told] if isinstance(told, list) else []
    for thing in told:
        found += lists_in(thing)
    return found


class PointOne(unittest.TestCase):
    def test_the_same_is_told_again_whatever_was_asked_or_emptied_between(self):
        asked = [(floor, leap) for floor in FLOORS for leap in LEAPS]
        first = [all_told(floor, leap) for floor, leap in asked]
        kept = copy.deepcopy(first)
        for told in lists_in(first):
            told.clear()
        again = [all_told(floor, leap) for floor, leap in reversed(asked)]
        self.assertEqual(list(reversed(again)), kept)

    def test_no_told_list_is_told_twice(self):
        for floor in FLOORS:
            for leap in ((0, 1), (0, 2), (4, 4)):
                found = lists_in([all_told(floor, leap), all_told(floor, leap)])
                self.assertEqual(len(found), len({id(told) for told in found}))

    def test_a_refusal_leaves_nothing_behind(self):
        kept = all_told(FLOORS[5], (1, 2))
        self.assertRaises(LeapError, near_cells, FLOORS[5], (1, 2), (7, 7))
        self.assertRaises(LeapError, parts_of, FLOORS[5], (2, 1))
        self.assertRaises(LeapError, hues_of, FLOORS[5] + ((0, 0),), (1, 2))
        self.assertRaises(LeapError, walk, FLOORS[9], (1, 2))
        self.assertRaises(LeapError, cut_of, FLOORS[5], (1, 2), 2)
        self.assertRaises(LeapError, paired, FLOORS[5], (1, 5))
        self.assertRaises(LeapError, free_fewest, (1, 2), 13, 0)
        self.assertRaises(LeapError, read, "###\n##\n")
        self.assertEqual(all_told(FLOORS[5], (1, 2)), kept)

    def test_what_is_handed_in_is_unchanged(self):
        for floor in FLOORS:
            for leap in LEAPS:
                handed, handed_leap = copy.deepcopy((floor, leap))
                all_told(handed, handed_leap)
                self.assertEqual((handed, handed_leap), (floor, leap))

    def test_what_is_refused_is_unchanged(self):
        floor, leap, cell = [[0, 1], [0, 0]], [2, 1], [0, 0]
        calls = [
            (checked, (floor,)), (checked, ((floor, (0, 0)),)), (checked_leap, (leap,)), (checked_leap, ((leap, 2),)),
            (near_cells, (floor, leap, cell)), (near_cells, (FLOORS[5], (1, 2), cell)),
            (parts_of, (floor, leap)), (parts_of, (FLOORS[5], leap)),
            (hues_of, (floor, leap)), (hues_of, (FLOORS[5], leap)),
            (fewest, (floor, leap, cell, cell)), (fewest, (FLOORS[5], (1, 2), (0, 0), cell)),
            (a_way, (floor, leap, cell, cell)), (a_way, (FLOORS[5], (1, 2), cell, (0, 0))),
            (cut_of, (floor, leap, cell)), (cut_of, (FLOORS[5], leap, cell)), (cut_of, (FLOORS[5], (1, 2), cell)),
            (can_reach, (leap, cell, cell)), (can_reach, ((1, 2), cell, 0)),
            (free_fewest, (leap, cell, cell)), (free_fewest, ((1, 2), 0, cell)),
            (shown, (floor,)), (read, (cell,)),
        ]
        for call in (walk, ring_walk, most_pairs, cover, peaceful, paired):
            calls += [(call, (floor, leap)), (call, (FLOORS[5], leap))]
        for call, handed in calls:
            self.assertRaises(LeapError, call, *handed)
            self.assertEqual((floor, leap, cell), ([[0, 1], [0, 0]], [2, 1], [0, 0]))


if __name__ == "__main__":
    unittest.main()
