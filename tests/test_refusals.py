"""The refusals of all functions that take a floor or a leap: each of its own class, the one named first ahead."""

import unittest

from leaperwalk.endless import can_reach, free_fewest
from leaperwalk.errors import BadFloor, BadLeap, BadNumber, BadText, LeapError, NoCell, TooBig
from leaperwalk.floors import checked, checked_leap
from leaperwalk.leaps import hues_of, near_cells, parts_of
from leaperwalk.pairs import cover, most_pairs, paired, peaceful
from leaperwalk.texts import read, shown
from leaperwalk.walks import cut_of, ring_walk, walk
from leaperwalk.ways import a_way, fewest
from tests.samples import LEAPS, NO_FLOORS, NO_LEAPS, scattered, whole

REFUSALS = [BadFloor, BadLeap, NoCell, BadNumber, TooBig, BadText]
KNIGHT = (1, 2)
CELL = (0, 0)

# With what a call is handed behind floor and leap, once as it should be and once not.
ON_FLOORS = [
    (near_cells, (CELL,), (None,)),
    (parts_of, (), ()),
    (hues_of, (), ()),
    (fewest, (CELL, CELL), (CELL, None)),
    (a_way, (CELL, CELL), (None, CELL)),
    (walk, (), ()),
    (ring_walk, (), ()),
    (cut_of, (0,), (2,)),
    (cut_of, (1,), (True,)),
    (most_pairs, (), ()),
    (cover, (), ()),
    (peaceful, (), ()),
    (paired, (), ()),
]


class Refusals(unittest.TestCase):
    def check_refusal(self, refusal, call, *handed):
        with self.assertRaises(LeapError) as caught:
            call(*handed)
        for other in REFUSALS:
            self.assertEqual(isinstance(caught.exception, other), other is refusal, (call.__name__, refusal.__name__))

    def test_bad_floor_ahead_of_all(self):
        for call, good, wrong in ON_FLOORS:
            for thing in NO_FLOORS:
                self.check_refusal(BadFloor, call, thing, KNIGHT, *good)
                self.check_refusal(BadFloor, call, thing, (2, 1), *wrong)
        for call in (checked, shown):
            for thing in NO_FLOORS:
                self.check_refusal(BadFloor, call, thing)

    def test_bad_leap_ahead_of_what_comes_behind_it(self):
        for call, good, wrong in ON_FLOORS:
            for thing in NO_LEAPS:
                for floor in (((0, 0),), whole(3, 3), whole(4, 6)):
                    self.check_refusal(BadLeap, call, floor, thing, *good)
                    self.check_refusal(BadLeap, call, floor, thing, *wrong)
        for thing in NO_LEAPS:
            self.check_refusal(BadLeap, checked_leap, thing)
            for call in (can_reach, free_fewest):
                self.check_refusal(BadLeap, call, thing, 0, 0)
                self.check_refusal(BadLeap, call, thing, 13, None)

    def test_too_big(self):
        for leap in LEAPS:
            self.check_refusal(TooBig, walk, scattered(17, 1), leap)
            self.check_refusal(TooBig, ring_walk, scattered(17, 1), leap)
            for spare in (0, 1, 2, True, None):
                self.check_refusal(TooBig, cut_of, scattered(10, 1), leap, spare)

    def test_a_floor_of_24_cells_is_too_big_for_walks_and_cuts_alone(self):
        floor = (CELL,) + whole(4, 6)[1:]
        for call, good, wrong in ON_FLOORS:
            if call in (walk, ring_walk, cut_of):
                self.check_refusal(TooBig, call, floor, KNIGHT, *good)
            else:
                call(floor, KNIGHT, *good)

    def test_no_cell_bad_number_and_bad_text(self):
        for thing in (None, (7, 7), True):
            self.check_refusal(NoCell, near_cells, whole(3, 3), KNIGHT, thing)
            self.check_refusal(NoCell, fewest, whole(3, 3), KNIGHT, thing, CELL)
            self.check_refusal(NoCell, a_way, whole(3, 3), KNIGHT, CELL, thing)
            self.check_refusal(BadNumber, cut_of, whole(3, 3), KNIGHT, thing)
            self.check_refusal(BadNumber, can_reach, KNIGHT, thing, 0)
            self.check_refusal(BadNumber, free_fewest, KNIGHT, 0, thing)
            self.check_refusal(BadText, read, thing)
        self.check_refusal(BadText, read, "#")


if __name__ == "__main__":
    unittest.main()
