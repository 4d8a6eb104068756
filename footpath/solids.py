"""What triangles and boxes fill over the cells of the grid, in whole levels."""

from footpath.clipping import extent, is_flat
from footpath.errors import SoupError
from footpath.settings import ceiled

FARTHEST = 1000000


def in_range(numbers):
    """Return True if all the numbers are in the range of coordinates."""
    return all(-FARTHEST <= number <= FARTHEST for number in numbers)


def check_soup(soup):
    """Raise SoupError with the index of the first triangle that is out of the range."""
    for at, triangle in enumerate(soup):
        if not all(in_range(point) for point in triangle):
            raise SoupError(at)


def check_boxes(boxes):
    """Raise SoupError with the index of the first box that is out of the range or has no inside."""
    for at, (x0, y0, z0, x1, y1, z1, _) in enumerate(boxes):
        if not (x0 < x1 and y0 < y1 and z0 < z1 and in_range((x0, y0, z0, x1, y1, z1))):
            raise SoupError(at)


def triangle_solid(settings, triangle, i, k):
    """Return the solid that a triangle fills over a cell, or None."""
    cell = settings.cell
    heights = extent(triangle, i * cell, k * cell, (i + 1) * cell, (k + 1) * cell)
    if heights is None:
        return None
    (low, low_den), (high, high_den) = heights
    lo = low // (low_den * settings.level)
    # What is level at a whole level would fill nothing.
    hi = max(ceiled(high, high_den * settings.level), lo + 1)
    return (lo, hi, hi if is_flat(triangle, settings.slope) else None)


def box_solid(settings, box):
    """Return the solid that a box fills over each cell that it meets."""
    hi = ceiled(box[4], settings.level)
    return (box[1] // settings.level, hi, hi if box[6] else None)


def merged(solids):
    """Return the column that a list of solids makes."""
    found = []
    for lo, hi, top in sorted(solids, key=lambda solid: solid[0]):
        if found and lo <= found[-1][1]:
            first, end, highest = found.pop()
            found.append((first, max(end, hi), greater_top(highest, top)))
        else:
            found.append((lo, hi, top))
    return found


def greater_top(one, other):
    """Return the greater one of two tops, of which None is less than any other."""
    if one is None or other is None:
        return other if one is None else one
    return max(one, other)


def met_range(settings, x0, z0, x1, z1):
    """Return the range (i0, k0, i1, k1) of the grid's cells that a closed rectangle meets.

    If it meets none, an end of the range is less than its beginning.
    """
    cell = settings.cell
    return (
        max(ceiled(x0, cell) - 1, 0),
        max(ceiled(z0, cell) - 1, 0),
        min(x1 // cell, settings.columns - 1),
        min(z1 // cell, settings.rows - 1),
    )


def box_range(settings, box):
    """Return the range of the cells that the rectangle of a box meets."""
    return met_range(settings, box[0], box[2], box[3], box[5])


def triangle_range(settings, triangle):
    """Return the range of the cells that the rectangle around a triangle meets."""
    xs = [point[0] for point in triangle]
    zs = [point[2] for point in triangle]
    return met_range(settings, min(xs), min(zs), max(xs), max(zs))


def cells_in(i0, k0, i1, k1):
    """Return the list of the cells of a range, by k, then by i."""
    return [(i, k) for k in range(k0, k1 + 1) for i in range(i0, i1 + 1)]


def cells_in_both(one, other):
    """Return the list of the cells that are in two ranges, by k, then by i."""
    return cells_in(max(one[0], other[0]), max(one[1], other[1]), min(one[2], other[2]), min(one[3], other[3]))


def grid_range(settings):
    """Return the range of all cells of the grid."""
    return (0, 0, settings.columns - 1, settings.rows - 1)


def cells_of(settings, box):
    """Return the range (i0, k0, i1, k1) of the grid's cells that a box meets, or None."""
    i0, k0, i1, k1 = box_range(settings, box)
    return (i0, k0, i1, k1) if i0 <= i1 and k0 <= k1 else None


def solids_over(settings, soup, boxes, cells):
    """Return a dict from a list of the grid's cells to the solids that single triangles and boxes fill there."""
    solids = {cell: [] for cell in cells}
    if not solids:
        return solids
    about = range_about(cells)
    for triangle in soup:
        for cell in cells_in_both(about, triangle_range(settings, triangle)):
            solid = triangle_solid(settings, triangle, cell[0], cell[1]) if cell in solids else None
            if solid is not None:
                solids[cell].append(solid)
    for box in boxes:
        for cell in cells_in_both(about, box_range(settings, box)):
            if cell in solids:
                solids[cell].append(box_solid(settings, box))
    return solids


def range_about(cells):
    """Return the least range (i0, k0, i1, k1) that has all cells of a list."""
    across, down = [i for i, _ in cells], [k for _, k in cells]
    return (min(across), min(down), max(across), max(down))


def columns_of(settings, soup, boxes, i0, k0, i1, k1):
    """Return a dict from the grid's cells with i from i0 to i1 and k from k0 to k1 to their columns."""
    cells = cells_in_both((i0, k0, i1, k1), grid_range(settings))
    solids = solids_over(settings, soup, boxes, cells)
    return {cell: merged(solids[cell]) for cell in solids}


def column(settings, soup, boxes, i, k):
    """Return the column over a cell of the grid."""
    return columns_of(settings, soup, boxes, i, k, i, k)[(i, k)]
