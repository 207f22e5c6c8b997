"""Floors, leaps and wrong things for the tests, and answers found in another way than the program's."""

LEAPS = [(less, more) for more in range(1, 5) for less in range(more + 1)]


def whole(rows, columns, top=0, left=0):
    return tuple((top + row, left + column) for row in range(rows) for column in range(columns))


def stirred(seed):
    return (seed * 1103515245 + 12345) % 2**31


def scattered(count, seed):
    cells = [(row, column) for row in range(8) for column in range(8)]
    chosen = []
    for step in range(count):
        seed = stirred(seed)
        chosen.append(cells.pop((seed >> 8) % len(cells)))
    return tuple(sorted(chosen))


def without(floor, *holes):
    return tuple(cell for cell in floor if cell not in holes)


FLOORS = [
    ((0, 0),),
    ((0, 7),),
    ((7, 0),),
    ((7, 7),),
    ((0, 0), (0, 7), (7, 0), (7, 7)),
    whole(3, 3),
    without(whole(3, 3), (1, 1)),
    whole(3, 4),
    without(whole(4, 4), (0, 0), (1, 2)),
    whole(3, 8),
    whole(8, 3, 0, 5),
    whole(4, 6, 4, 2),
    without(whole(5, 5), (2, 2)),
    without(whole(5, 5, 3, 3), (3, 3)),
] + [scattered(count, count + 7) for count in (2, 5, 9, 13, 17, 20, 23, 24)]


def small_floors(rows, columns):
    cells = whole(rows, columns)
    for bits in range(1, 2 ** len(cells)):
        yield tuple(cell for place, cell in enumerate(cells) if bits >> place & 1)


class Stranger:
    """Of no kind that is asked for, and bears no comparing."""

    __hash__ = None

    def __eq__(self, other):
        raise RuntimeError("compared")

    def __len__(self):
        raise RuntimeError("measured")

    def __bool__(self):
        raise RuntimeError("asked for truth")


class Yes:
    """Equals everything, and so seems to be in every floor."""

    def __eq__(self, other):
        return True

    def __hash__(self):
        return 0


OTHER_KINDS = [
    None, True, False, 0, 1, -1, 2.0, 1j, "", "a", "ab", "#\n", b"ab", [], {}, set(), frozenset(), range(2),
    object(), int, len, Stranger(), Yes(), float("nan"), float("inf"), 10**30,
]

NO_NUMBERS = [thing for thing in OTHER_KINDS if type(thing) is not int] + [
    13, -13, 14, -14, 24, -24, 100, 10**30, -10**30, 0.0, 1.0, -1.0, 12.5, float("-inf"),
    "0", "1", "-1", b"\0", (), (0,), (1,), (0, 0), [0], [1], {0: 0},
]

NO_SPARES = NO_NUMBERS + [-1, 2, -2, 3, 8, 9, 10, 12, -12]

NO_CELLS = OTHER_KINDS + [
    (), (0,), (0, 0, 0), [0, 0], {0: 0, 1: 0}, "00", b"\0\0", range(0, 2),
    (-1, 0), (0, -1), (8, 0), (0, 8), (10**30, 0), (0, -10**30),
    (True, 0), (0, True), (False, 0), (0, False), (False, False), (True, True),
    (0.0, 0), (0, 0.0), (1.0, 1.0), (None, 0), (0, None), ("0", "0"), ("0", 0), ((0,), 0), ((0, 0),), ((0, 0), (0, 0)),
    ([0], 0), (Stranger(), 0), (0, Stranger()), (Yes(), 0), (0, Yes()), (float("nan"), 0),
]

NO_FLOORS = OTHER_KINDS + [
    (),
    scattered(25, 1), whole(5, 5), whole(8, 8), ((0, 0),) * 25,
    ((0, 0), (0, 0)), ((0, 0), (0, 1), (0, 1), (0, 2)), ((7, 7), (7, 7)),
    ((0, 1), (0, 0)), ((1, 0), (0, 1)), ((0, 0), (0, 2), (0, 1)), ((0, 0), (1, 0), (0, 1)), tuple(reversed(whole(4, 6))),
    [(0, 0)], list(whole(3, 3)), {(0, 0): True}, {(0, 0)}, frozenset([(0, 0)]), (0, 0), ((), ()),
    ([0, 0],), ([0, 0], (0, 1)), ((0, 0), [0, 1]), ((0, 0), None), (None, (0, 0)),
] + [(thing,) for thing in NO_CELLS] + [((0, 0), thing) for thing in NO_CELLS] + [(thing, (7, 7)) for thing in NO_CELLS]

NO_LEAPS = OTHER_KINDS + [
    (), (1,), (2,), (1, 2, 3), (0, 0, 1), [1, 2], {1: 2}, {1, 2}, "12", b"\1\2", range(1, 3),
    (2, 1), (1, 0), (4, 3), (4, 0), (0, 0), (0, 5), (1, 5), (5, 5), (5, 4), (4, 10**30), (0, -1), (-1, -1),
    (-1, 0), (-1, 1), (-1, 2), (-4, 4), (-2, -1), (1, -2), (-10**30, 1),
    (True, 2), (1, True), (False, 1), (False, True), (0, True), (True, True), (False, False), (True, 4), (False, 4),
    (1.0, 2), (1, 2.0), (0.0, 1.0), (None, 2), (1, None), ("1", "2"), ("1", 2), (1, "2"), ((1,), 2), ((1, 2),),
    ([1], 2), (Stranger(), 2), (1, Stranger()), (Yes(), 2), (1, Yes()), (float("nan"), 2), (1, float("nan")),
]


def landings(leap, cell):
    less, more = leap
    return {
        (cell[0] + down * turned[0], cell[1] + right * turned[1])
        for turned in ((less, more), (more, less))
        for down in (1, -1)
        for right in (1, -1)
    }


def near_pairs(floor, leap):
    return {(one, other) for one in floor for other in landings(leap, one) if other in floor}


def distances(floor, leap):
    """The fewest leaps for each pair of cells that a way joins, by letting cells in between one by one."""
    found = {(one, other): 1 for one, other in near_pairs(floor, leap)}
    for cell in floor:
        found[cell, cell] = 0
    for between in floor:
        for one in floor:
            for other in floor:
                if (one, between) in found and (between, other) in found:
                    length = found[one, between] + found[between, other]
                    found[one, other] = min(length, found.get((one, other), length))
    return found


def beside(chosen, leap):
    """The cells of the widest floor that are not chosen: those near a chosen one, or all, where none is near."""
    others = set(whole(8, 8)) - set(chosen)
    near = {other for cell in chosen for other in landings(leap, cell)} & others
    return sorted(near or others)


def grown(leap, count, seed):
    """A floor with many leaps in it: each cell is near one ahead of it, as long as there is such a cell."""
    seed = stirred(seed)
    chosen = [whole(8, 8)[(seed >> 8) % 64]]
    while len(chosen) < count:
        seed = stirred(seed)
        free = beside(chosen, leap)
        chosen.append(free[(seed >> 8) % len(free)])
    return tuple(sorted(chosen))


def dense(leap, count, start):
    """A floor with as many leaps in it as come about cell by cell, close around its start."""
    chosen = [start]

    def worth(cell):
        return len(landings(leap, cell) & set(chosen)), -((cell[0] - start[0]) ** 2 + (cell[1] - start[1]) ** 2)

    while len(chosen) < count:
        chosen.append(max(beside(chosen, leap), key=worth))
    return tuple(sorted(chosen))


def near_table(floor, leap):
    return {cell: landings(leap, cell) & set(floor) for cell in floor}
