"""What is a floor, a leap or a cell of a floor, and the refusal of what is none."""

from leaperwalk.errors import BadFloor, BadLeap, NoCell

LAST_LINE = 7
MOST_CELLS = 24
LONGEST_LEAP = 4


def is_whole(thing, least, most):
    # Python takes True and False for whole numbers; the document does not.
    if isinstance(thing, bool) or not isinstance(thing, int):
        return False
    return least <= thing <= most


def is_couple(thing):
    return isinstance(thing, tuple) and len(thing) == 2


def is_cell(thing):
    return is_couple(thing) and is_whole(thing[0], 0, LAST_LINE) and is_whole(thing[1], 0, LAST_LINE)


def is_leap(thing):
    # The second number is looked at first, as it bounds the first one.
    return is_couple(thing) and is_whole(thing[1], 1, LONGEST_LEAP) and is_whole(thing[0], 0, thing[1])


def is_rising(cells):
    return all([cells[place - 1] < cells[place] for place in range(1, len(cells))])


def is_floor(thing):
    if not isinstance(thing, tuple) or not 1 <= len(thing) <= MOST_CELLS:
        return False
    # Things of other kinds may not bear comparing, so the order is asked of cells alone.
    return all([is_cell(part) for part in thing]) and is_rising(thing)


def checked(floor):
    if not is_floor(floor):
        raise BadFloor("a floor is a tuple of 1 to 24 cells, rising, none twice")
    return floor


def checked_leap(leap):
    if not is_leap(leap):
        raise BadLeap("a leap is a tuple (less, more), less from 0 to more, more from 1 to 4")
    return leap


def checked_cell(floor, cell):
    # (True, 0) and (1.0, 0) equal (1, 0), so being found in the floor is not enough.
    if not is_cell(cell) or cell not in floor:
        raise NoCell("that is no cell of the floor")
    return cell
