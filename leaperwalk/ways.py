"""Ways with the fewest leaps from a cell of a floor to another."""

from leaperwalk.floors import checked, checked_cell, checked_leap
from leaperwalk.leaps import leads_to


def a_way(floor, leap, one, other):
    checked(floor)
    checked_leap(leap)
    checked_cell(floor, one)
    checked_cell(floor, other)
    leads = leads_to(floor, leap, other)
    if one not in leads:
        return None
    way = [one]
    while leads[way[-1]] is not None:
        way.append(leads[way[-1]])
    return way


def fewest(floor, leap, one, other):
    way = a_way(floor, leap, one, other)
    return None if way is None else len(way) - 1
