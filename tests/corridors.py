"""Corridors of plates to draw strings through, and second ways of telling strings and their lengths."""

from fractions import Fraction
from itertools import product
from math import isqrt
import random

CELL = 3
SIDES = ((1, 0), (-1, 0), (0, 1), (0, -1))


def corridor(seed, many):
    """A mesh, a start, a goal and a way of some portals between them.

    The plates lie over one another as it comes; portals of one plate have no point in common.
    """
    chance = random.Random(seed)
    built = Corridor(chance)
    for _ in range(many):
        built.go_on(chance)
    first, last = built.plates[0], built.plates[built.at]
    start = built.some_place(chance, first, built.way[:1]) + (0,)
    goal = built.some_place(chance, last, built.way[-1:]) + (built.at,)
    if chance.random() < 0.1 and built.at == 0:
        goal = start
    return (built.plates, built.portals), start, goal, built.way


class Corridor:

    def __init__(self, chance):
        self.plates = [("plate", 0, 0, chance.randrange(3), chance.randrange(3), ())]
        self.portals = []
        self.way = []
        self.at = 0

    def go_on(self, chance):
        """Go through one more portal, an old one or a new one, to an old plate or a new one."""
        near = [n for n, portal in enumerate(self.portals) if self.at in portal[1:3] and n not in self.way[-1:]]
        if near and chance.random() < 0.2:
            self.way.append(chance.choice(near))
            _, p, q = self.portals[self.way[-1]][:3]
            self.at = p + q - self.at
            return
        while True:
            di, dk = chance.choice(SIDES)
            line = self.some_line(chance, self.plates[self.at], di, dk)
            if self.is_free(self.at, line):
                break
            # All sides may be full: then the plate is thought to be longer.
            if chance.random() < 0.1:
                self.longer(self.at)
        other = self.beside(chance, line, di, dk)
        p, q = (self.at, other) if di + dk > 0 else (other, self.at)
        self.way.append(len(self.portals))
        self.portals.append(("portal", p, q) + tuple(CELL * number for number in line))
        self.at = other

    def longer(self, at):
        _, i0, k0, i1, k1, _ = self.plates[at]
        if any(at in portal[1:3] and portal[3] == portal[5] == CELL * (i1 + 1) for portal in self.portals):
            return
        self.plates[at] = ("plate", i0, k0, i1 + 1, k1, ())

    def some_line(self, chance, plate, di, dk):
        """A part of a side of a plate, in cells."""
        _, i0, k0, i1, k1, _ = plate
        low, high = (k0, k1) if di else (i0, i1)
        begin = chance.randint(low, high)
        end = min(chance.choice((begin, begin, begin + 1, begin + 2)), high) + 1
        if di:
            x = i1 + 1 if di > 0 else i0
            return (x, begin, x, end)
        z = k1 + 1 if dk > 0 else k0
        return (begin, z, end, z)

    def is_free(self, at, line):
        """Whether no portal of a plate shares a part with a line; an end may be shared."""
        for _, p, q, x0, z0, x1, z1 in self.portals:
            x0, z0, x1, z1 = x0 // CELL, z0 // CELL, x1 // CELL, z1 // CELL
            same_way = (x0 == x1) == (line[0] == line[2])
            if at in (p, q) and same_way and x0 <= line[2] and line[0] <= x1 and z0 <= line[3] and line[1] <= z1:
                if max(x0, line[0]) < min(x1, line[2]) or max(z0, line[1]) < min(z1, line[3]):
                    return False
        return True

    def beside(self, chance, line, di, dk):
        """An old plate on the other side of a line if there is one that is free, or a new one."""
        x0, z0, x1, z1 = line
        for at, (_, i0, k0, i1, k1, _) in enumerate(self.plates):
            if di:
                fits = (i0 if di > 0 else i1 + 1) == x0 and k0 <= z0 and z1 <= k1 + 1
            else:
                fits = (k0 if dk > 0 else k1 + 1) == z0 and i0 <= x0 and x1 <= i1 + 1
            if at != self.at and fits and self.is_free(at, line) and chance.random() < 0.5:
                return at
        more = [chance.choice((0, 0, 0, 1, 2)) for _ in range(3)]
        if di:
            i0 = x0 if di > 0 else x0 - 1 - more[0]
            self.plates.append(("plate", i0, z0 - more[1], i0 + more[0], z1 - 1 + more[2], ()))
        else:
            k0 = z0 if dk > 0 else z0 - 1 - more[0]
            self.plates.append(("plate", x0 - more[1], k0, x1 - 1 + more[2], k0 + more[0], ()))
        return len(self.plates) - 1

    def some_place(self, chance, plate, portals):
        """A point of a plate: often in a corner, or on a portal with one of some indices."""
        _, i0, k0, i1, k1, _ = plate
        x0, z0, x1, z1 = CELL * i0, CELL * k0, CELL * (i1 + 1), CELL * (k1 + 1)
        kind = chance.randrange(4)
        if kind == 0:
            return (chance.choice((x0, x1)), chance.choice((z0, z1)))
        if kind == 1 and portals:
            x0, z0, x1, z1 = self.portals[portals[0]][3:]
        return (chance.randint(x0, x1), chance.randint(z0, z1))


def sides_of(gates):
    """The gates without their order of ends: for each the numbers x0, z0, x1, z1, ascending."""
    return [(min(a[0], b[0]), min(a[1], b[1]), max(a[0], b[0]), max(a[1], b[1])) for a, b in gates]


def fractions_on(p, q, side):
    """The first and the last fraction of the part from p to q that is in a rectangle, or None."""
    low, high = Fraction(0), Fraction(1)
    for axis in range(2):
        begin, goes = p[axis], q[axis] - p[axis]
        ends = [side[axis] - begin, side[axis + 2] - begin]
        if goes == 0:
            if not ends[0] <= 0 <= ends[1]:
                return None
        else:
            one, other = sorted(Fraction(end, goes) for end in ends)
            low, high = max(low, one), min(high, other)
    return (low, high) if low <= high else None


def told_contacts(gates, points, bends):
    """Point 10.4: the positions as fractions, counted from the start of the string, or None."""
    if len(bends) != len(points[1:-1]) or any(a >= b for a, b in zip(bends, bends[1:])):
        return None
    for number, point in zip(bends, points[1:]):
        if number not in range(len(gates)) or point not in gates[number]:
            return None
    found, here = [], Fraction(0)
    for number, side in enumerate(sides_of(gates)):
        if number in bends:
            least = greatest = Fraction(bends.index(number) + 1)
        else:
            before = [at for at, bend in enumerate(bends) if bend < number]
            least = Fraction(len(before))
            greatest = Fraction(min(len(before) + 1, len(points) - 1))
        if here > greatest:
            return None
        here = first_on(points, side, max(here, least), greatest)
        if here is None:
            return None
        found.append(here)
    return found


def first_on(points, side, least, greatest):
    """The first position from least to greatest at which a string is on a gate, or None."""
    if len(points) == 1:
        points = points * 2
    for at in range(len(points) - 1):
        met = fractions_on(points[at], points[at + 1], side)
        if met and max(at + met[0], least) <= min(at + met[1], greatest):
            return max(at + met[0], least)
    return None


def part_along(direction, t):
    """The part of a direction, of the length 1, along an axis, as its square with its sign."""
    along = direction[0] * t[0] + direction[1] * t[1]
    square = (direction[0] ** 2 + direction[1] ** 2) * (t[0] ** 2 + t[1] ** 2)
    return Fraction(along * abs(along), square)


def has_taut_bends(gates, points, bends):
    """Point 10.3, for a string that goes through the gates."""
    for at, number in enumerate(bends):
        p, bend, q = points[at:at + 3]
        u, v = (bend[0] - p[0], bend[1] - p[1]), (q[0] - bend[0], q[1] - bend[1])
        left, right = gates[number]
        other = right if bend == left else left
        t = (other[0] - bend[0], other[1] - bend[1])
        if part_along(u, v) == 1 or part_along(u, t) < part_along(v, t):
            return False
    return True


def bent_strings(start, gates, goal):
    """All strings with bends at ends of gates, as (points, bends), whether they go through the gates or not."""
    for chosen in product((None, 0, 1), repeat=len(gates)):
        bends = [number for number, side in enumerate(chosen) if side is not None]
        points = [start] + [gates[number][chosen[number]] for number in bends] + [goal]
        if len(points) == 2 and start == goal:
            points = [start]
        if all(one != other for one, other in zip(points, points[1:])):
            yield points, bends


def gate_points(ends):
    """All points with integers of a gate."""
    x0, z0, x1, z1 = sides_of([ends])[0]
    return [(x, z) for x in range(x0, x1 + 1) for z in range(z0, z1 + 1)]


def straightened(points):
    """A line without the points at which it goes straight on, and without points that come twice."""
    kept = []
    for point in points:
        if kept and kept[-1] == point:
            continue
        if len(kept) > 1:
            (ax, az), (bx, bz), (cx, cz) = kept[-2], kept[-1], point
            ux, uz, vx, vz = bx - ax, bz - az, cx - bx, cz - bz
            if ux * vz == uz * vx and ux * vx + uz * vz > 0:
                kept.pop()
        kept.append(point)
    return kept


def squares(points):
    """The squares of the lengths of the parts of a line."""
    return [(c - a) ** 2 + (d - b) ** 2 for (a, b), (c, d) in zip(points, points[1:])]


def is_shorter(points, others):
    """Whether a line is shorter than another one of another length, told by ever closer bounds."""
    ours, theirs = squares(points), squares(others)
    digits = 1
    while digits < 10 ** 4:
        scale = 10 ** (2 * digits)
        low, low_theirs = sum(isqrt(n * scale) for n in ours), sum(isqrt(n * scale) for n in theirs)
        if low + len(ours) <= low_theirs:
            return True
        if low_theirs + len(theirs) <= low:
            return False
        digits *= 2
    raise ValueError("the lines seem to have one length")
