"""Finding the floors and the places that belong to points."""

from footpath.errors import PlaceError
from footpath.plates import owners, plate_floors


def cell_of(settings, x, z):
    """Return the cell (i, k) of a point, or None if it is outside of the grid."""
    cell, columns, rows = settings.cell, settings.columns, settings.rows
    if not (0 <= x <= columns * cell and 0 <= z <= rows * cell):
        return None
    # The points of the far border are those of the last cells.
    return (min(x // cell, columns - 1), min(z // cell, rows - 1))


def floors_in(plates):
    """Return the list of the floors of a list of plates."""
    return [floor for plate in plates for floor in plate_floors(plate)]


def floor_under(settings, plates, x, y, z):
    """Return the floor under a point, or None."""
    cell = cell_of(settings, x, z)
    highest = y + settings.step
    under = [floor for floor in floors_in(plates) if floor[:2] == cell and floor[2] * settings.level <= highest]
    return max(under, default=None)


def nearest_floor(settings, plates, x, y, z):
    """Return the nearest floor to a point, or None if there are no plates."""
    ranked = [
        (square_distance(settings, i, k, x, z), abs(level * settings.level - y), k, i, level)
        for i, k, level in floors_in(plates)
    ]
    if not ranked:
        return None
    _, _, k, i, level = min(ranked)
    return (i, k, level)


def square_distance(settings, i, k, x, z):
    """Return the square of the distance of a point from the square of a cell."""
    near_x, near_z = nearest_point(settings, i, k, x, z)
    return (near_x - x) * (near_x - x) + (near_z - z) * (near_z - z)


def nearest_point(settings, i, k, x, z):
    """Return the point (x, z) of the square of a cell that is nearest to a point."""
    cell = settings.cell
    return (min(max(x, i * cell), (i + 1) * cell), min(max(z, k * cell), (k + 1) * cell))


def place_on(settings, plates, floor, x, z):
    """Return the place on a floor that is nearest to a point."""
    plate = owners(plates).get(floor)
    if plate is None:
        raise PlaceError("floor")
    near_x, near_z = nearest_point(settings, floor[0], floor[1], x, z)
    return (near_x, near_z, plate)


def place_near(settings, plates, x, y, z):
    """Return the place on the floor that is nearest to a point."""
    return place_on(settings, plates, nearest_floor(settings, plates, x, y, z), x, z)


def levels_at(settings, plates, place):
    """Return the ascending list of the levels of all floors of a place's plate that have the place."""
    x, z, at = place
    if not 0 <= at < len(plates):
        raise PlaceError("plate")
    floors = plate_floors(plates[at])
    levels = [level for i, k, level in floors if square_distance(settings, i, k, x, z) == 0]
    if not levels:
        raise PlaceError("place")
    return sorted(levels)
