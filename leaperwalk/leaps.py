"""Near cells, the parts of a floor, and the hues of its cells."""

from leaperwalk.floors import checked, checked_cell, checked_leap


def folded(down, right):
    # A leap goes alike in all its turned and mirrored ways, so one of them stands for all.
    return (min(abs(down), abs(right)), max(abs(down), abs(right)))


def are_near(leap, one, other):
    return folded(other[0] - one[0], other[1] - one[1]) == leap


def cells_near(floor, leap, cell):
    return [other for other in floor if are_near(leap, cell, other)]


def leads_to(floor, leap, goal):
    # For each cell from which a way leads to the goal: the next one on a way with the fewest leaps.
    # Sought from the goal backwards, so that a way is then read off from its first cell on.
    leads = {goal: None}
    edge = [goal]
    while len(edge) > 0:
        further = []
        for cell in edge:
            for other in cells_near(floor, leap, cell):
                if other not in leads:
                    leads[other] = cell
                    further.append(other)
        edge = further
    return leads


def parts_within(cells, leap):
    parts = []
    placed = {}
    for cell in cells:
        if cell not in placed:
            leads = leads_to(cells, leap, cell)
            placed.update(leads)
            parts.append(sorted(leads.keys()))
    return parts


def greatest_divisor(leap):
    return max([number for number in range(1, leap[1] + 1) if leap[0] % number == 0 and leap[1] % number == 0])


def has_odd_sum(leap):
    divisor = greatest_divisor(leap)
    return (leap[0] // divisor + leap[1] // divisor) % 2 == 1


def hue_of(leap, cell):
    divisor = greatest_divisor(leap)
    row = cell[0] // divisor
    column = cell[1] // divisor
    if has_odd_sum(leap):
        return (row + column) % 2
    return row % 2


def cells_of_hue(floor, leap, hue):
    return [cell for cell in floor if hue_of(leap, cell) == hue]


def near_cells(floor, leap, cell):
    checked(floor)
    checked_leap(leap)
    checked_cell(floor, cell)
    return cells_near(floor, leap, cell)


def parts_of(floor, leap):
    checked(floor)
    checked_leap(leap)
    return parts_within(floor, leap)


def hues_of(floor, leap):
    checked(floor)
    checked_leap(leap)
    return [cells_of_hue(floor, leap, 0), cells_of_hue(floor, leap, 1)]
