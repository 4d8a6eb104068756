"""Second ways of working out solids, floors, plates and portals, and worlds to try them on.

Nothing here is quick: each function follows the words of its point, by fractions and by sets.
"""

from fractions import Fraction
from itertools import combinations
import math
import random

from footpath.settings import Settings

FAR = 1000000


def heights_over(triangle, x0, z0, x1, z1):
    """The extent as a pair of Fractions, found by the shares of the second and the third corner.

    A point of the triangle is the first corner plus s times one edge plus t times another one.
    What is over the rectangle is where some lines in the plane of (s, t) are not passed, and the
    height is least and greatest where two of these lines meet.
    """
    (ax, ay, az), (bx, by, bz), (cx, cy, cz) = triangle
    x, z = (ax, bx - ax, cx - ax), (az, bz - az, cz - az)
    lines = [(0, 1, 0), (0, 0, 1), (1, -1, -1)]
    for (first, by_s, by_t), low, high in ((x, x0, x1), (z, z0, z1)):
        lines += [(first - low, by_s, by_t), (high - first, -by_s, -by_t)]
    found = []
    for (c, a, b), (f, d, e) in combinations(lines, 2):
        both = a * e - b * d
        if both:
            s, t = Fraction(b * f - c * e, both), Fraction(c * d - a * f, both)
            if all(first + s * by_s + t * by_t >= 0 for first, by_s, by_t in lines):
                found.append(ay + s * (by - ay) + t * (cy - ay))
    return (min(found), max(found)) if found else None


def is_flat_thing(settings, triangle):
    """Point 3.1, by the angle's cosine squared."""
    edges = [[triangle[at][axis] - triangle[0][axis] for axis in range(3)] for at in (1, 2)]
    (ux, uy, uz), (vx, vy, vz) = edges
    x, y, z = uy * vz - uz * vy, uz * vx - ux * vz, ux * vy - uy * vx
    if (x, y, z) == (0, 0, 0):
        return False
    return Fraction(y * y, x * x + y * y + z * z) >= Fraction(*settings.slope)


def solids_over(settings, soup, boxes, i, k):
    """Point 4.1: the solids of all single triangles and boxes over a cell."""
    side, level = settings.cell, settings.level
    x0, z0, x1, z1 = i * side, k * side, (i + 1) * side, (k + 1) * side
    found = []
    for triangle in soup:
        heights = heights_over(triangle, x0, z0, x1, z1)
        if heights is not None:
            lo, hi = math.floor(heights[0] / level), math.ceil(heights[1] / level)
            hi = hi if hi > lo else lo + 1
            found.append((lo, hi, hi if is_flat_thing(settings, triangle) else None))
    for bx0, by0, bz0, bx1, by1, bz1, flat in boxes:
        if not (bx1 < x0 or x1 < bx0 or bz1 < z0 or z1 < bz0):
            hi = math.ceil(Fraction(by1, level))
            found.append((math.floor(Fraction(by0, level)), hi, hi if flat else None))
    return found


def column_over(solids):
    """Point 4.2: two solids that overlap or touch become one, until there are none."""
    left = list(solids)
    pair = True
    while pair:
        pair = next(((a, b) for a, b in combinations(left, 2) if a[0] <= b[1] and b[0] <= a[1]), None)
        if pair:
            a, b = pair
            left.remove(a)
            left.remove(b)
            tops = [top for top in (a[2], b[2]) if top is not None]
            left.append((min(a[0], b[0]), max(a[1], b[1]), max(tops, default=None)))
    return sorted(left, key=lambda solid: solid[0])


def clipped(corners, axis, sign, bound):
    """What a convex polygon has where sign * number is not below sign * bound."""
    kept = []
    for one, other in zip(corners[-1:] + corners[:-1], corners):
        a, b = (sign * (point[axis] - bound) for point in (one, other))
        if a * b < 0:
            kept.append(tuple(p + (q - p) * Fraction(a, a - b) for p, q in zip(one, other)))
        if b >= 0:
            kept.append(other)
    return kept


def is_touched(low, high, triangle):
    """Whether a point inside a box, given by its least and its greatest corner, is in a triangle.

    The middle of what the triangle has in the closed box is inside, if any point of it is.
    """
    corners = [tuple(Fraction(number) for number in point) for point in triangle]
    for axis in range(3):
        corners = clipped(clipped(corners, axis, 1, low[axis]), axis, -1, high[axis])
    if not corners:
        return False
    middle = [sum(numbers) / len(corners) for numbers in zip(*corners)]
    return all(a < number < b for a, number, b in zip(low, middle, high))


def all_columns(settings, soup, boxes):
    cells = [(i, k) for i in range(settings.columns) for k in range(settings.rows)]
    return {(i, k): column_over(solids_over(settings, soup, boxes, i, k)) for i, k in cells}


def all_floors(settings, columns):
    """Points 5.1 and 5.2: the set of all floors (i, k, level) of a grid."""
    found = set()
    for (i, k), solids in columns.items():
        for _, level, top in solids:
            if top is None or top < level - settings.slack:
                continue
            if any(level < hi and lo < level + settings.tall for lo, hi, _ in solids):
                continue
            offsets = range(-settings.reach, settings.reach + 1)
            near = [(i + a, k + b) for a in offsets for b in offsets]
            low, high = level + settings.rise, level + settings.tall
            if all(cell in columns and not any(meets(solid, low, high) for solid in columns[cell]) for cell in near):
                found.add((i, k, level))
    return found


def meets(solid, low, high):
    """Whether a solid meets an open range: whether it has one of the whole unit steps in it."""
    return any(solid[0] <= n and n + 1 <= solid[1] for n in range(low, high))


def joined_pairs(settings, floors):
    """Point 5.3: the set of the pairs (one, other) of joined floors, other to the right or below."""
    return {
        (one, other)
        for one in floors
        for other in floors
        if (other[0] - one[0], other[1] - one[1]) in ((1, 0), (0, 1)) and abs(one[2] - other[2]) <= settings.rise
    }


def all_plates(settings, floors, joined):
    """Point 6.2, for all tiles in their order."""
    tiles = {}
    for i, k, level in floors:
        tiles.setdefault((k // settings.tile, i // settings.tile), []).append((k, i, level))
    plates = []
    for _, members in sorted(tiles.items()):
        left = {(i, k, level) for k, i, level in members}
        while left:
            plate = plate_of(left, joined)
            plates.append(as_plate(plate))
            left -= {floor for row in plate for floor in row}
    return plates


def plate_of(left, joined):
    """The rows of the plate that begins at the first floor of those that are left."""
    row = [min(left, key=lambda floor: (floor[1], floor[0], floor[2]))]
    while True:
        more = [g for f, g in joined if f == row[-1] and g[1] == f[1] and g in left]
        if not more:
            break
        row += more
    rows = [row]
    while True:
        below = [g for f in rows[-1] for e, g in joined if e == f and g[1] == f[1] + 1 and g in left]
        if len(below) < len(row) or any(pair not in joined for pair in zip(below, below[1:])):
            return rows
        rows.append(below)


def as_plate(rows):
    (i0, k0, _), (i1, k1, _) = rows[0][0], rows[-1][-1]
    return ("plate", i0, k0, i1, k1, tuple(level for row in rows for _, _, level in row))


def all_portals(settings, plates, joined):
    """Point 6.3, from the joined pairs of floors of different plates."""
    owner = {}
    for at, (_, i0, k0, i1, k1, levels) in enumerate(plates):
        cells = [(i, k) for k in range(k0, k1 + 1) for i in range(i0, i1 + 1)]
        owner.update({(i, k, level): at for (i, k), level in zip(cells, levels)})
    sides = []
    for one, other in joined:
        p, q = owner[one], owner[other]
        if p != q:
            down = other[1] > one[1]
            sides.append((p, down, one[0] if down else one[1], q, other))
    portals = []
    last = None
    for p, down, along, q, (i, k, _) in sorted(sides):
        end = (i + down, k + (not down))
        line = (i * settings.cell, k * settings.cell, end[0] * settings.cell, end[1] * settings.cell)
        if last == (p, down, along - 1, q):
            line = portals.pop()[3:5] + line[2:]
        portals.append(("portal", p, q) + line)
        last = (p, down, along, q)
    return portals


def whole_mesh(settings, soup, boxes):
    """The mesh of a soup and boxes, and its floors."""
    floors = all_floors(settings, all_columns(settings, soup, boxes))
    joined = joined_pairs(settings, floors)
    plates = all_plates(settings, floors, joined)
    return (plates, all_portals(settings, plates, joined)), floors, joined


def some_settings(chance, **changes):
    """Settings of a small grid."""
    cell, level = chance.randint(3, 9), chance.randint(1, 4)
    tall = chance.randint(1, 7)
    made = dict(
        columns=chance.randint(1, 6),
        rows=chance.randint(1, 6),
        cell=cell,
        level=level,
        width=chance.choice((0, 0, 0, 1, cell, cell + 1)),
        height=max(1, tall * level - chance.randrange(level)),
        step=chance.randint(0, (tall - 1) // 2) * level + chance.randrange(level),
        slope=chance.choice(((0, 1), (1, 2), (4, 5))),
        slack=chance.choice((0, 0, 1, 2)),
        tile=chance.randint(2, 4),
    )
    return Settings(**{**made, **changes})


def some_box(chance, settings):
    """A box that meets the grid or lies a little outside of it."""
    x0, z0 = (chance.randint(-settings.cell, many * settings.cell) for many in (settings.columns, settings.rows))
    y0 = chance.randint(-6, 6) * settings.level + chance.choice((0, 0, 1))
    sizes = [chance.choice((1, settings.cell // 2, settings.cell, 3 * settings.cell)) for _ in range(2)]
    high = chance.choice((1, settings.level, 2 * settings.level))
    return (x0, y0, z0, x0 + sizes[0], y0 + high, z0 + sizes[1], chance.random() < 0.7)


def some_triangle(chance, settings):
    """A triangle over a part of the grid: often a wide one, sometimes upright, a line or a point."""
    wide, deep = settings.columns * settings.cell, settings.rows * settings.cell
    kind = chance.randrange(6)
    y = chance.randint(-8, 8) * settings.level
    if kind < 2:
        rise = chance.randint(-2, 2) * settings.level
        return ((-1, y, -1), (2 * wide + 3, y + 2 * rise, -1), (-1, y + rise, 2 * deep + 3))
    points = [(chance.randint(-5, wide + 5), y + chance.randint(-4, 4), chance.randint(-5, deep + 5)) for _ in range(3)]
    if kind == 2:
        points[2] = (points[1][0], points[0][1] + 3, points[1][2])
    if kind == 3:
        points[2] = points[chance.randrange(2)]
    return tuple(points)


def some_world(seed, **changes):
    """Settings, a soup and boxes."""
    chance = random.Random(seed)
    settings = some_settings(chance, **changes)
    soup = [some_triangle(chance, settings) for _ in range(chance.randint(0, 4))]
    boxes = [some_box(chance, settings) for _ in range(chance.randint(0, 8))]
    return settings, soup, boxes
