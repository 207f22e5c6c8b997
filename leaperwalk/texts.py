"""Floors written in lines, and read from them."""

from leaperwalk.errors import BadText
from leaperwalk.floors import checked, is_floor


def shown_line(floor, row, width):
    return "".join(["#" if (row, column) in floor else "." for column in range(width)]) + "\n"


def shown(floor):
    checked(floor)
    width = max([cell[1] for cell in floor]) + 1
    return "".join([shown_line(floor, row, width) for row in range(floor[-1][0] + 1)])


def cells_in(text):
    cells = []
    for row, line in enumerate(text.split("\n")):
        for column, sign in enumerate(line):
            if sign == "#":
                cells.append((row, column))
    return tuple(cells)


def read(text):
    if not isinstance(text, str):
        raise BadText("that is no text")
    floor = cells_in(text)
    # Each floor is written in one way alone, so that all other texts with the same cells are refused.
    if not is_floor(floor) or shown(floor) != text:
        raise BadText("that is no floor written in lines of # and .")
    return floor
