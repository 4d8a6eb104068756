"""Taut strings: the shortest lines through the gates of a way, seen from above."""

from math import isqrt

from footpath.clipping import less
from footpath.search import fewest, plates_of


def gate(mesh, portal, plate):
    """Return the gate (left, right) of a portal, as seen from one of its two plates."""
    _, p, _, x0, z0, x1, z1 = mesh[1][portal]
    if x0 == x1:
        left, right = (x0, z0 + 1), (x1, z1 - 1)
    else:
        left, right = (x1 - 1, z1), (x0 + 1, z0)
    return (left, right) if plate == p else (right, left)


def gates_of(mesh, plates, way):
    """Return the list of the gates of a way of portals through plates."""
    return [gate(mesh, portal, plate) for portal, plate in zip(way, plates)]


def less_by(point, other):
    """Return the pair of numbers by which the first point is more than the other one."""
    return (point[0] - other[0], point[1] - other[1])


def inner(one, other):
    """Return the inner product of two pairs."""
    return one[0] * other[0] + one[1] * other[1]


def bends_well(before, bend, behind, ends):
    """Return True if a string may bend at an end of a gate, so that it does not get shorter elsewhere.

    It comes from a point and goes on to another one; both are other points than the bend.
    """
    u, v = less_by(bend, before), less_by(behind, bend)
    if u[0] * v[1] == u[1] * v[0] and inner(u, v) > 0:
        return False
    t = less_by(ends[1] if bend == ends[0] else ends[0], bend)
    u_along, v_along = inner(u, t), inner(v, t)
    # The parts along t, of directions of the length 1, compared by their squares with signs.
    return u_along * abs(u_along) * inner(v, v) >= v_along * abs(v_along) * inner(u, u)


def on_gate(p, q, ends):
    """Return where the part from p to q is on a gate, or None.

    It is a triple (first, last, den) of the first and the last fraction, first / den and last / den.
    """
    along = 0 if ends[0][1] == ends[1][1] else 1
    low, high = min(ends)[along], max(ends)[along]
    goes_along, goes_across = q[along] - p[along], q[1 - along] - p[1 - along]
    top = ends[0][1 - along] - p[1 - along]
    if goes_across == 0:
        return on_line(p[along], goes_along, low, high) if top == 0 else None
    if goes_across < 0:
        top, goes_across = -top, -goes_across
    number = p[along] * goes_across + goes_along * top
    if 0 <= top <= goes_across and low * goes_across <= number <= high * goes_across:
        return (top, top, goes_across)
    return None


def on_line(begin, goes, low, high):
    """Return where a part of a line is between two numbers, as a triple (first, last, den), or None."""
    if goes < 0:
        return on_line(-begin, -goes, -high, -low)
    first, last = max(low - begin, 0), min(high - begin, goes)
    return (first, last, max(goes, 1)) if first <= last else None


def part_contacts(p, q, gates):
    """Return the list of the contacts of the part from p to q with gates, or None.

    They are the first fractions (top, den) of the part on the gates, in the order of the gates.
    """
    found = []
    here = (0, 1)
    for ends in gates:
        met = on_gate(p, q, ends)
        if met is None:
            return None
        first, last, den = met
        if less(here, (first, den)):
            here = (first, den)
        if less((last, den), here):
            return None
        found.append(here)
    return found


def taut(start, gates, end):
    """Return the pair of the points of the taut string and the numbers of the gates at its bends."""
    # For each end of a gate the last bend of the taut string that goes there from the start.
    befores = {}
    for number, ends in enumerate(gates):
        for side in (0, 1):
            befores[(number, side)] = last_bend(start, gates[:number], befores, ends[side])
    bends = []
    bend = last_bend(start, gates, befores, end)
    while bend is not None:
        bends.append(bend)
        bend = befores[bend]
    bends.reverse()
    points = [start] + [gates[number][side] for number, side in bends]
    if bends or start != end:
        points.append(end)
    return (points, [number for number, _ in bends])


def last_bend(start, gates, befores, point):
    """Return the last bend (number, side) of the taut string through gates to a point, or None.

    The strings to the ends of the gates are known by the bends before these ends. A string to the
    point that has the property of taut strings at its bends is the taut one, so only the last bend
    has to be looked for: from which the rest is straight and goes through the gates that are left.
    """
    for number in reversed(range(len(gates))):
        for side in (0, 1):
            bend, last = gates[number][side], befores[(number, side)]
            before = start if last is None else gates[last[0]][last[1]]
            # Where the string begins or ends it has no bend.
            if bend == before or bend == point or not bends_well(before, bend, point, gates[number]):
                continue
            if part_contacts(bend, point, gates[number + 1:]) is not None:
                return (number, side)
    return None


def has_bends(gates, points, bends):
    """Return True if the points between the first and the last one are ends of the gates of the bends."""
    if len(bends) != max(len(points) - 2, 0):
        return False
    if any(one >= other for one, other in zip(bends, bends[1:])):
        return False
    return all(0 <= number < len(gates) and point in gates[number] for number, point in zip(bends, points[1:]))


def contacts(gates, points, bends):
    """Return the list of the contacts of a string with gates, or None if it does not go through them."""
    if not has_bends(gates, points, bends):
        return None
    found = []
    first = 0
    for at, stop in enumerate(bends + [len(gates)]):
        # A string of one point has a part that ends where it begins.
        part = part_contacts(points[at], points[min(at + 1, len(points) - 1)], gates[first:stop])
        if part is None:
            return None
        found.extend([position_at(at, top, den) for top, den in part])
        if stop < len(gates):
            found.append((at + 1, 0, 1))
        first = stop + 1
    return found


def position_at(at, top, den):
    """Return the position at a fraction, from 0 to 1, of the part behind a point of a string."""
    if top == 0 or top == den:
        return (at if top == 0 else at + 1, 0, 1)
    return (at, top, den)


def is_taut(gates, points, bends):
    """Return True if a string is taut."""
    if contacts(gates, points, bends) is None:
        return False
    for number, before, bend, behind in zip(bends, points, points[1:], points[2:]):
        if not bends_well(before, bend, behind, gates[number]):
            return False
    return True


def length_bounds(points, scale):
    """Return the pair of the integers between which the length of a string, times a scale, lies."""
    low = high = 0
    for one, other in zip(points, points[1:]):
        x, z = less_by(other, one)
        square = (x * x + z * z) * scale * scale
        root = isqrt(square)
        low += root
        high += root if root * root == square else root + 1
    return (low, high)


def strung(mesh, start, goal, way):
    """Return the found way of a way of portals from a place to another one."""
    plates = plates_of(mesh, start[2], way)
    points, bends = taut(start[:2], gates_of(mesh, plates, way), goal[:2])
    return ("way", plates, list(way), points, bends)


def find_way(mesh, start, goal):
    """Return the found way with the fewest portals from a place to another one, or None."""
    way = fewest(mesh, start[2], goal[2])
    return None if way is None else strung(mesh, start, goal, way)
