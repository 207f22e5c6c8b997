"""As many pairs of near cells as can be, the least covers, cells in peace, and crowds that can not be paired."""

from leaperwalk.floors import checked, checked_leap
from leaperwalk.leaps import cells_near, cells_of_hue, hue_of


def finds_mate(floor, leap, mates, cell, tried):
    # A near cell that has a mate already is won if that mate finds another one.
    for other in cells_near(floor, leap, cell):
        if other not in tried:
            tried[other] = True
            if other not in mates or finds_mate(floor, leap, mates, mates[other], tried):
                mates[cell] = other
                mates[other] = cell
                return True
    return False


def all_mates(floor, leap):
    mates = {}
    for cell in cells_of_hue(floor, leap, 0):
        finds_mate(floor, leap, mates, cell, {})
    return mates


def pairs_of(floor, mates):
    return [(cell, mates[cell]) for cell in floor if cell in mates and cell < mates[cell]]


def crowd_and_around(floor, leap, mates, hue):
    # The cells of the hue without a mate, those that are mates of cells near the crowd, and all cells near the crowd.
    # Each cell around has a mate, else there would be one pair more; so the crowd is larger by those without a mate.
    crowd = [cell for cell in cells_of_hue(floor, leap, hue) if cell not in mates]
    around = []
    edge = crowd
    while len(edge) > 0:
        further = []
        for cell in edge:
            for other in cells_near(floor, leap, cell):
                if other not in around:
                    around.append(other)
                    further.append(mates[other])
        crowd = crowd + further
        edge = further
    return (crowd, around)


def is_in_cover(leap, cell, crowd, around):
    # Leaps from the crowd are met around it, all others at the cells of its hue that are not in it.
    if hue_of(leap, cell) == 0:
        return cell not in crowd
    return cell in around


def cells_by_cover(floor, leap, covering):
    checked(floor)
    checked_leap(leap)
    found = crowd_and_around(floor, leap, all_mates(floor, leap), 0)
    return [cell for cell in floor if is_in_cover(leap, cell, found[0], found[1]) == covering]


def most_pairs(floor, leap):
    checked(floor)
    checked_leap(leap)
    return pairs_of(floor, all_mates(floor, leap))


def cover(floor, leap):
    return cells_by_cover(floor, leap, True)


def peaceful(floor, leap):
    return cells_by_cover(floor, leap, False)


def paired(floor, leap):
    checked(floor)
    checked_leap(leap)
    mates = all_mates(floor, leap)
    alone = [cell for cell in floor if cell not in mates]
    if len(alone) == 0:
        return ("paired", pairs_of(floor, mates))
    found = crowd_and_around(floor, leap, mates, hue_of(leap, alone[0]))
    return ("crowd", sorted(found[0]))
