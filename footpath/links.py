"""Links: leaps from an edge of a floor to another floor in the same row or column of cells."""

from footpath.floors import DIRECTIONS, cells_near, floors_of, has_body_room, partner
from footpath.settings import require
from footpath.solids import cells_in_both, grid_range


def check_jumps(jumps):
    """Raise SettingsError with the name of the first number of the jumps that is out of its range."""
    _, far, climb, drop = jumps
    require("far", 1 <= far <= 16)
    require("climb", 0 <= climb <= 1000)
    require("drop", 0 <= drop <= 1000)


def is_flight(settings, columns, place, other):
    """Return True if the flight between two floors in one row or column is free."""
    (i, k, level), (j, m, height) = place, other
    carried = max(level, height)
    between = cells_near(settings, min(i, j), min(k, m), max(i, j), max(k, m))
    if between is None:
        return False
    first, second = cells_near(settings, i, k, i, k), cells_near(settings, j, m, j, m)
    for cells, low in ((first, level), (between, carried), (second, height)):
        if not has_body_room(settings, columns, cells, low, carried):
            return False
    return True


def links_from(settings, columns, floors, jumps, place):
    """Return the list of the links from a floor, by direction, distance and level."""
    return [("link", place, other) for di, dk in DIRECTIONS
            for other in landings(settings, columns, floors, jumps, place, di, dk)]


def landings(settings, columns, floors, jumps, place, di, dk):
    """Return the list of the floors to which a link leads from a floor in a direction."""
    if partner(settings, floors, place, di, dk) is not None:
        return []
    _, far, climb, drop = jumps
    i, k, level = place
    found = []
    for distance in range(1, far + 1):
        cell = (i + distance * di, k + distance * dk)
        for height in floors.get(cell, []):
            other = (cell[0], cell[1], height)
            if not level - drop <= height <= level + climb or partner(settings, floors, other, -di, -dk) is not None:
                continue
            if is_flight(settings, columns, place, other):
                found.append(other)
    return found


def links_of(settings, columns, floors, jumps, cells):
    """Return the list of the links from the floors of some cells, in the order of the cells."""
    places = [(i, k, level) for i, k in cells for level in floors[(i, k)]]
    return [link for place in places for link in links_from(settings, columns, floors, jumps, place)]


def tile_links(settings, columns, jumps, a, b):
    """Return the list of the links from the floors of a tile."""
    cells = settings.tile_cells(a, b)
    (i0, k0), (i1, k1) = cells[0], cells[-1]
    far = jumps[1]
    grid = grid_range(settings)
    across = cells_in_both((i0 - far, k0, i1 + far, k1), grid)
    down = cells_in_both((i0, k0 - far, i1, k1 + far), grid)
    return links_of(settings, columns, floors_of(settings, columns, across + down), jumps, cells)


def all_links(settings, columns, jumps):
    """Return the list of the links of the grid."""
    cells = [cell for a, b in settings.tiles() for cell in settings.tile_cells(a, b)]
    return links_of(settings, columns, floors_of(settings, columns, cells), jumps, cells)
