"""Papers of ways: the cells through which a string goes, written so that a checker needs no columns and no plates."""

from footpath.clipping import less
from footpath.floors import are_joined, cells_near, has_body_room
from footpath.plates import plate_floors
from footpath.solids import solids_over
from footpath.strings import contacts, gates_of, position_at


def paper(settings, mesh, way):
    """Return the paper of a found way of a mesh."""
    _, plates, portals, points, bends = way
    # In each plate the string goes straight to the next contact, in the last one to its end.
    stops = contacts(gates_of(mesh, plates, portals), points, bends) + [(len(points) - 1, 0, 1)]
    place = first_cell(settings, mesh[0][plates[0]], points[0])
    here = (0, 0, 1)
    pieces = []
    for number, plate in enumerate(plates):
        levels = {(i, k): level for i, k, level in plate_floors(mesh[0][plate])}
        for cell, position in leg(settings.cell, points, here, stops[number], place):
            pieces.append((cell[0], cell[1], levels[cell]) + position)
            place = cell
        here = stops[number]
        if number < len(portals):
            place = across(mesh[1][portals[number]], plate, place)
    return ("paper", list(points), pieces)


def first_cell(settings, plate, point):
    """Return the cell of a plate in which a string from a point of it begins."""
    _, i0, k0, i1, k1, _ = plate
    return (min(max(point[0] // settings.cell, i0), i1), min(max(point[1] // settings.cell, k0), k1))


def leg(cell, points, here, stop, place):
    """Return the cells through which a straight leg of a string goes, each with the position at which it ends there.

    The leg goes from one position to another one, and begins in the cell `place`.
    """
    at = here[0]
    p, q = points[at], points[min(at + 1, len(points) - 1)]
    last = stop[1:] if stop[0] == at else (1, 1)
    found = []
    out = way_out(cell, p, q, place)
    while out is not None and less(out[0], last):
        top, den = out[0]
        found.append((place, position_at(at, top, den)))
        place = out[1]
        out = way_out(cell, p, q, place)
    found.append((place, stop))
    return found


def way_out(cell, p, q, place):
    """Return the fraction of the line from p to q at which it leaves a cell, and the next cell, or None."""
    outs = []
    for axis in (0, 1):
        goes = q[axis] - p[axis]
        if goes != 0:
            side = place[axis] if goes < 0 else place[axis] + 1
            sign = -1 if goes < 0 else 1
            beside = (place[0] + sign, place[1]) if axis == 0 else (place[0], place[1] + sign)
            outs.append((((side * cell - p[axis]) * sign, goes * sign), beside))
    if not outs:
        return None
    # Through a corner, the line leaves first in x.
    return outs[-1] if less(outs[-1][0], outs[0][0]) else outs[0]


def across(portal, plate, place):
    """Return the cell on the other side of a portal from a cell of one of its plates."""
    _, p, _, x0, _, x1, _ = portal
    step = 1 if plate == p else -1
    return (place[0] + step, place[1]) if x0 == x1 else (place[0], place[1] + step)


def check(settings, soup, boxes, paper):
    """Return ("taken",), or ("refused", fault, at) for the first piece of a paper that has a fault."""
    _, points, pieces = paper
    solids = solids_over(settings, soup, boxes, cells_needed(settings, pieces))
    before = None
    for at, piece in enumerate(pieces):
        fault = fault_of(settings, solids, points, before, piece)
        if fault is not None:
            return ("refused", fault, at)
        before = piece
    if before is None or before[3] != len(points) - 1:
        return ("refused", "end", len(pieces))
    return ("taken",)


def cells_needed(settings, pieces):
    """Return the list of the grid's cells at which the checker of the pieces has to look."""
    needed = {}
    for i, k in {(piece[0], piece[1]): True for piece in pieces}:
        if settings.has_cell(i, k):
            for cell in cells_near(settings, i, k, i, k) or [(i, k)]:
                needed[cell] = True
    return list(needed)


def fault_of(settings, solids, points, before, piece):
    """Return the name of the first fault of a piece that comes behind another one, or None."""
    i, k, level, at, top, den = piece
    here = (at, top, den)
    begin = (0, 0, 1) if before is None else before[3:]
    if not settings.has_cell(i, k):
        return "cell"
    if before is not None and not is_step(settings, before[:3], piece[:3]):
        return "step"
    if not is_position(points, here) or is_before(here, begin):
        return "position"
    if not is_inside(settings, points, begin, here, (i, k)):
        return "outside"
    if not has_ground(settings, solids[(i, k)], level):
        return "ground"
    near = cells_near(settings, i, k, i, k)
    if near is None or not has_body_room(settings, solids, near, level, level):
        return "room"
    return None


def is_step(settings, place, other):
    """Return True if two floors are in cells with a common side, and their levels may be joined."""
    has_side = abs(place[0] - other[0]) + abs(place[1] - other[1]) == 1
    return has_side and are_joined(settings, place[2], other[2])


def is_position(points, position):
    """Return True if the position is one of the string."""
    at, top, den = position
    if not (0 <= at < len(points) and den >= 1):
        return False
    return top == 0 or (at < len(points) - 1 and 0 < top < den)


def is_before(one, other):
    """Return True if a position of a string comes before another one."""
    return one[0] < other[0] or (one[0] == other[0] and less(one[1:], other[1:]))


def is_inside(settings, points, begin, end, place):
    """Return True if a string is in a closed cell from a position to another one that is not before it."""
    stops = [begin] + [(at, 0, 1) for at in range(begin[0] + 1, end[0] + 1)] + [end]
    return all(in_cell(settings.cell, point_at(points, position), place) for position in stops)


def point_at(points, position):
    """Return the point at a position of a string as (x, z, den): x / den and z / den."""
    at, top, den = position
    if top == 0:
        return (points[at][0], points[at][1], 1)
    (x, z), (next_x, next_z) = points[at], points[at + 1]
    return (x * den + (next_x - x) * top, z * den + (next_z - z) * top, den)


def in_cell(cell, point, place):
    """Return True if a point (x, z, den) is in a closed cell."""
    x, z, den = point
    i, k = place
    side = cell * den
    return i * side <= x <= (i + 1) * side and k * side <= z <= (k + 1) * side


def has_ground(settings, solids, level):
    """Return True if one of the solids has a top at a level, or not more than the slack below it."""
    return any(top is not None and level - settings.slack <= top <= level for _, _, top in solids)
