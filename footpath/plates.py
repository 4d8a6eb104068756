"""Plates, the rectangles of joined floors, and portals, where they are joined to one another."""

from footpath.floors import are_joined, floors_of, partner
from footpath.solids import cells_in


def tile_plates(settings, columns, a, b):
    """Return the list of the plates of a tile, in the order in which they are made."""
    cells = settings.tile_cells(a, b)
    # As only cells of the tile are in this dict, no plate leaves it.
    floors = floors_of(settings, columns, cells)
    taken = {}
    plates = []
    for i, k in cells:
        for level in floors[(i, k)]:
            if (i, k, level) not in taken:
                plate = plate_from(settings, floors, taken, (i, k, level))
                plates.append(plate)
                for floor in plate_floors(plate):
                    taken[floor] = True
    return plates


def plate_from(settings, floors, taken, place):
    """Return the plate that begins at a floor, of floors that are not taken."""
    row = first_row(settings, floors, taken, place)
    i1 = row[-1][0]
    k1 = place[1] - 1
    levels = []
    while row is not None:
        levels.extend([level for _, _, level in row])
        k1 += 1
        row = row_below(settings, floors, taken, row)
    return ("plate", place[0], place[1], i1, k1, tuple(levels))


def first_row(settings, floors, taken, place):
    """Return the floors from a floor to the right, as far as each is joined to the next one."""
    row = []
    while place is not None and place not in taken:
        row.append(place)
        place = partner(settings, floors, place, 1, 0)
    return row


def row_below(settings, floors, taken, row):
    """Return the floors that are joined to those of a row from below, or None if they do not fit."""
    below = []
    for place in row:
        floor = partner(settings, floors, place, 0, 1)
        if floor is None or floor in taken:
            return None
        if below and not are_joined(settings, below[-1][2], floor[2]):
            return None
        below.append(floor)
    return below


def plate_floors(plate):
    """Return the list of the floors (i, k, level) of a plate, by k, then by i."""
    _, i0, k0, i1, k1, levels = plate
    return [(i, k, level) for (i, k), level in zip(cells_in(i0, k0, i1, k1), levels)]


def owners(plates):
    """Return a dict from the floors of a list of plates to the indices of their plates."""
    return {floor: at for at, plate in enumerate(plates) for floor in plate_floors(plate)}


def joined_portals(settings, plates):
    """Return the list of the portals between the plates of a list."""
    owner = owners(plates)
    floors = {}
    for i, k, level in owner:
        floors.setdefault((i, k), []).append(level)
    portals = []
    for p, plate in enumerate(plates):
        _, _, _, i1, k1, _ = plate
        right = [floor for floor in plate_floors(plate) if floor[0] == i1]
        lower = [floor for floor in plate_floors(plate) if floor[1] == k1]
        for side, di, dk in ((right, 1, 0), (lower, 0, 1)):
            for q, first, last in neighbour_runs(settings, floors, owner, side, di, dk):
                portals.append(portal_along(settings.cell, p, q, first, last, di, dk))
    return portals


def neighbour_runs(settings, floors, owner, side, di, dk):
    """Return the list of the runs (q, first, last) of a plate's side, in order.

    In a run each floor, from the first one to the last one, is joined to one of the plate q.
    """
    runs = []
    neighbour = None
    for floor in side:
        before = neighbour
        neighbour = owner.get(partner(settings, floors, floor, di, dk))
        if neighbour is not None:
            first = runs.pop()[1] if neighbour == before else floor
            runs.append((neighbour, first, floor))
    return runs


def portal_along(cell, p, q, first, last, di, dk):
    """Return the portal along the sides of the cells from the first floor to the last one."""
    x0, z0 = (first[0] + di) * cell, (first[1] + dk) * cell
    x1, z1 = (last[0] + 1) * cell, (last[1] + 1) * cell
    return ("portal", p, q, x0, z0, x1, z1)


def mesh(settings, columns):
    """Return the pair of the plates and the portals of the grid."""
    plates = [plate for a, b in settings.tiles() for plate in tile_plates(settings, columns, a, b)]
    return (plates, joined_portals(settings, plates))
