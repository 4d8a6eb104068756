"""What a triangle has over a rectangle, and how steep it is, all in whole numbers."""


def normal(triangle):
    """Return the cross product of the second and the third corner less the first one."""
    (ax, ay, az), (bx, by, bz), (cx, cy, cz) = triangle
    ux, uy, uz = bx - ax, by - ay, bz - az
    vx, vy, vz = cx - ax, cy - ay, cz - az
    return (uy * vz - uz * vy, uz * vx - ux * vz, ux * vy - uy * vx)


def is_flat(triangle, slope):
    """Return True if the triangle is flat; it may face up or down."""
    x, y, z = normal(triangle)
    num, den = slope
    square = x * x + y * y + z * z
    return square > 0 and y * y * den >= num * square


def less(one, other):
    """Return True if one fraction is less than another one."""
    return one[0] * other[1] < other[0] * one[1]


def extent(triangle, x0, z0, x1, z1):
    """Return the lowest and the highest height over a closed rectangle, or None."""
    # A corner (x, y, z, w) is the point (x / w, y / w, z / w), with w above 0:
    # so a corner that clipping makes is exact without any fractions.
    corners = [(x, y, z, 1) for x, y, z in triangle]
    for axis, sign, bound in ((0, 1, x0), (0, -1, x1), (2, 1, z0), (2, -1, z1)):
        corners = clipped(corners, axis, sign, bound)
    if not corners:
        return None
    heights = [(corner[1], corner[3]) for corner in corners]
    low = high = heights[0]
    for height in heights:
        if less(height, low):
            low = height
        if less(high, height):
            high = height
    return (low, high)


def clipped(corners, axis, sign, bound):
    """Return the corners of what a convex polygon has on one side of a plane.

    The plane is that of the points whose number along the axis is the bound;
    the sign 1 keeps what is not below it, the sign -1 what is not above it.
    """
    depths = [sign * (corner[axis] - bound * corner[3]) for corner in corners]
    kept = []
    for at, corner in enumerate(corners):
        # At the first corner the one before it is the last one, at -1.
        if depths[at - 1] * depths[at] < 0:
            kept.append(crossing(corners[at - 1], depths[at - 1], corner, depths[at]))
        if depths[at] >= 0:
            kept.append(corner)
    return kept


def crossing(one, depth, other, other_depth):
    """Return the corner at which the edge from one corner to another one has the depth 0."""
    # Shares that are above 0 keep the fourth number above 0.
    share, other_share = abs(other_depth), abs(depth)
    return tuple([share * p + other_share * q for p, q in zip(one, other)])
