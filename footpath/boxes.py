"""The walker's box, and what touches it, decided exactly."""

from footpath.clipping import normal

ORIGIN = (0, 0, 0)
AXES = ((1, 0, 0), (0, 1, 0), (0, 0, 1))


def has_inside(box):
    """Return True if there is a point inside the box."""
    return all(box[axis] < box[axis + 3] for axis in range(3))


def touches(box, triangle):
    """Return True if a point inside the box is a point of the triangle, which may be a segment or a point."""
    if not has_inside(box):
        return False
    return not any(parts(direction, box, triangle) for direction in parting_directions(triangle))


def parting_directions(triangle):
    """Return the list of the directions of which one parts a triangle from each box that it does not touch."""
    directions = list(AXES) + [normal(triangle)]
    for at in range(3):
        # At the first corner the one before it is the last one, at -1.
        edge = tuple([q - p for p, q in zip(triangle[at - 1], triangle[at])])
        directions.extend([normal((ORIGIN, axis, edge)) for axis in AXES])
    # The direction 0 has the product 0 with all points, and so would part all.
    return [direction for direction in directions if direction != ORIGIN]


def parts(direction, box, triangle):
    """Return True if a direction that is not 0 parts a triangle from the points inside a box."""
    ends = [(number * box[axis], number * box[axis + 3]) for axis, number in enumerate(direction)]
    low, high = sum([min(pair) for pair in ends]), sum([max(pair) for pair in ends])
    products = [direction[0] * x + direction[1] * y + direction[2] * z for x, y, z in triangle]
    return max(products) <= low or min(products) >= high


def touches_box(box, other):
    """Return True if a point inside the box is in the other box, its surface included."""
    for axis in range(3):
        low, high = other[axis], other[axis + 3]
        if not (box[axis] < high and low < box[axis + 3] and low <= high):
            return False
    return has_inside(box)


def walker_box(settings, x, z, hi):
    """Return the box of the walker at a point on a floor with the level hi."""
    width, unit = settings.width, settings.level
    low, high = (hi + settings.rise) * unit, (hi + settings.tall) * unit
    return (x - width, low, z - width, x + width, high, z + width)


def first_touched(settings, soup, boxes, x, z, hi):
    """Return ("triangle", k) or else ("box", k) for the first one that the walker's box touches, or None."""
    walker = walker_box(settings, x, z, hi)
    for at, triangle in enumerate(soup):
        if touches(walker, triangle):
            return ("triangle", at)
    for at, box in enumerate(boxes):
        if touches_box(walker, box):
            return ("box", at)
    return None


def is_free(settings, soup, boxes, x, z, hi):
    """Return True if the walker's box at a point on a floor touches no triangle and no box."""
    return first_touched(settings, soup, boxes, x, z, hi) is None
