"""The floors of cells, and which of them are joined."""

from footpath.solids import cells_in

# From a cell to its neighbours: right, left, down and up.
DIRECTIONS = ((1, 0), (-1, 0), (0, 1), (0, -1))


def open_levels(settings, solids):
    """Return the list of the open levels of a column, in ascending order."""
    found = []
    for at, (_, hi, top) in enumerate(solids):
        is_ground = top is not None and top >= hi - settings.slack
        if is_ground and (at + 1 == len(solids) or solids[at + 1][0] >= hi + settings.tall):
            found.append(hi)
    return found


def cells_near(settings, i0, k0, i1, k1):
    """Return the list of the cells within reach of those of a range, or None if one of them is not in the grid."""
    reach = settings.reach
    if not (settings.has_cell(i0 - reach, k0 - reach) and settings.has_cell(i1 + reach, k1 + reach)):
        return None
    return cells_in(i0 - reach, k0 - reach, i1 + reach, k1 + reach)


def levels_of(settings, columns, i, k):
    """Return the list of the levels of the floors of a cell, in ascending order."""
    near = cells_near(settings, i, k, i, k)
    if near is None:
        return []
    levels = open_levels(settings, columns[(i, k)])
    return [level for level in levels if has_body_room(settings, columns, near, level, level)]


def has_body_room(settings, solids, cells, level, lifted):
    """Return True if the solids over all cells of a list leave room for a walker that is lifted from a level."""
    low, high = level + settings.rise, lifted + settings.tall
    return all(has_room(solids[cell], low, high) for cell in cells)


def has_room(solids, low, high):
    """Return True if none of the solids meets the open range from low to high."""
    return all(hi <= low or lo >= high for lo, hi, _ in solids)


def floors_of(settings, columns, cells):
    """Return a dict from the cells of a list to the lists of the levels of their floors."""
    return {(i, k): levels_of(settings, columns, i, k) for i, k in cells}


def are_joined(settings, level, other):
    """Return True if floors with these levels, in cells with a common side, are joined."""
    return abs(level - other) <= settings.rise


def partner(settings, floors, place, di, dk):
    """Return the floor in the next cell in a direction that is joined to a floor, or None."""
    i, k, level = place
    for other in floors.get((i + di, k + dk), []):
        if are_joined(settings, level, other):
            return (i + di, k + dk, other)
    return None
