"""How far and by how few leaps the piece comes on the endless floor."""

from leaperwalk.errors import BadNumber
from leaperwalk.floors import checked_leap, is_whole
from leaperwalk.leaps import folded, greatest_divisor, has_odd_sum

FURTHEST = 12


def refuse_far(number):
    if not is_whole(number, -FURTHEST, FURTHEST):
        raise BadNumber("so far down and so far right are whole numbers from -12 to 12")


def can_reach(leap, down, right):
    checked_leap(leap)
    refuse_far(down)
    refuse_far(right)
    divisor = greatest_divisor(leap)
    if down % divisor != 0 or right % divisor != 0:
        return False
    return has_odd_sum(leap) or (down // divisor + right // divisor) % 2 == 0


def landings(leap, cell):
    cells = []
    for step in (leap, (leap[1], leap[0])):
        for down in (-step[0], step[0]):
            for right in (-step[1], step[1]):
                cells.append(folded(cell[0] + down, cell[1] + right))
    return cells


def next_ring(leap, ring, reached):
    further = []
    for cell in ring:
        for other in landings(leap, cell):
            if other not in reached:
                reached[other] = True
                further.append(other)
    return further


def free_fewest(leap, down, right):
    if not can_reach(leap, down, right):
        return None
    goal = folded(down, right)
    ring = [(0, 0)]
    reached = {(0, 0): True}
    leaps = 0
    while goal not in reached:
        ring = next_ring(leap, ring, reached)
        leaps = leaps + 1
    return leaps
