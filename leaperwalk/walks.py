"""Walks that come to each cell of a floor just once, and cuts that show that there is none."""

from leaperwalk.errors import BadNumber, TooBig
from leaperwalk.floors import checked, checked_leap, is_whole
from leaperwalk.leaps import are_near, parts_within

MOST_TO_WALK = 16
MOST_TO_CUT = 9


def refuse_big(floor, most):
    if len(floor) > most:
        raise TooBig(f"the floor has more than {most} cells")


# Some cells of a floor are kept here as one number, with a bit for the place of each. So all walks that have come
# over the same cells are one step of the search, and even a floor without a walk is soon done with.


def bits_near(floor, leap, cell):
    return sum([1 << place for place, other in enumerate(floor) if are_near(leap, cell, other)])


def one_cell_walks(count, starts):
    layer = {}
    for place in range(count):
        if (starts & (1 << place)) != 0:
            layer[1 << place] = 1 << place
    return layer


def one_cell_longer(near, layer):
    # A layer holds, for all cells that some walk of one length can have come over, where such walks can end.
    longer = {}
    for visited in layer:
        for place in range(len(near)):
            bit = 1 << place
            if (visited & bit) == 0 and (layer[visited] & near[place]) != 0:
                longer[visited | bit] = longer.get(visited | bit, 0) | bit
    return longer


def layers_from(near, starts):
    layers = [one_cell_walks(len(near), starts)]
    while len(layers) < len(near):
        layers.append(one_cell_longer(near, layers[-1]))
    return layers


def walk_between(floor, near, starts, ends):
    layers = layers_from(near, starts)
    visited = (1 << len(floor)) - 1
    if (layers[-1].get(visited, 0) & ends) == 0:
        return None
    # Told from its end to its start: turned round, a walk is a walk as well, and so is a ring walk.
    cells = []
    for layer in reversed(layers):
        place = (layer[visited] & ends).bit_length() - 1
        cells.append(floor[place])
        visited = visited ^ (1 << place)
        ends = near[place]
    return cells


def walk(floor, leap):
    checked(floor)
    checked_leap(leap)
    refuse_big(floor, MOST_TO_WALK)
    near = [bits_near(floor, leap, cell) for cell in floor]
    anywhere = (1 << len(floor)) - 1
    return walk_between(floor, near, anywhere, anywhere)


def ring_walk(floor, leap):
    checked(floor)
    checked_leap(leap)
    refuse_big(floor, MOST_TO_WALK)
    # To and fro between two cells would come back, too, but is no ring.
    if len(floor) < 3:
        return None
    near = [bits_near(floor, leap, cell) for cell in floor]
    # A ring comes over every cell, so it may as well start at the first one.
    return walk_between(floor, near, 1, near[0])


def leaves_too_many(floor, leap, spare, cut):
    rest = [cell for cell in floor if cell not in cut]
    parts = len(parts_within(rest, leap))
    return parts > len(cut) + spare and parts > 1


def one_cell_more(floor, cuts):
    # The order of the lists is kept, so that the first one that serves is the first one as a list.
    wider = []
    for cut in cuts:
        for cell in floor:
            if len(cut) == 0 or cell > cut[-1]:
                wider.append(cut + [cell])
    return wider


def cut_of(floor, leap, spare):
    checked(floor)
    checked_leap(leap)
    refuse_big(floor, MOST_TO_CUT)
    if not is_whole(spare, 0, 1):
        raise BadNumber("spare is 1 for a walk, 0 for a ring walk")
    cuts = [[]]
    # A cut of half the cells or more leaves no more cells, and so no more parts, than it has itself.
    while 2 * len(cuts[0]) < len(floor):
        for cut in cuts:
            if leaves_too_many(floor, leap, spare, cut):
                return cut
        cuts = one_cell_more(floor, cuts)
    return None
