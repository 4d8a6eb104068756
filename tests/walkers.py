"""Journeys and crowds by the words of points 13 and 18, on which walkers have gone a number of lengths."""

from fractions import Fraction
from itertools import combinations

from footpath.locate import nearest_floor
from footpath.papers import paper
from footpath.plates import owners
from footpath.strings import find_way
from tests.trails import as_number, at_number


def lengths(points):
    """The lengths, for walking, of the parts of a string."""
    return [max(abs(c - a), abs(d - b)) for (a, b), (c, d) in zip(points, points[1:])]


class Twin:
    """A journey by the words of points 13.2 to 13.4; its point is a pair of fractions."""

    def __init__(self, world, start, goal, speed):
        self.world, self.speed = world, speed
        plates = world.mesh()[0]
        self.floor, self.goal = (nearest_floor(world.settings, plates, *point) for point in (start, goal))
        self.point = self.nearest(self.floor, start)
        self.aim = self.nearest(self.goal, goal)
        self.ticks = self.plans = 0
        self.plan()

    def nearest(self, floor, point):
        side = self.world.settings.cell
        return tuple(sorted((n * side, p, (n + 1) * side))[1] for n, p in zip(floor, (point[0], point[2])))

    def plan(self):
        self.plans += 1
        self.seen = self.world.changes
        self.string, self.pieces, self.gone, self.status = [], [], 0, "blocked"
        mesh = self.world.mesh()
        owner = owners(mesh[0])
        if self.floor in owner and self.goal in owner:
            rounded = tuple(int(n // 1) for n in self.point)
            way = find_way(mesh, rounded + (owner[self.floor],), self.aim + (owner[self.goal],))
            if way:
                self.string, self.point = way[3], rounded
                self.pieces = paper(self.world.settings, mesh, way)[2]
                self.status = "arrived" if len(self.string) == 1 else "walking"

    def number(self):
        parts = lengths(self.string)
        at = max(n for n in range(len(self.string)) if sum(parts[:n]) <= self.gone)
        return at + Fraction(self.gone - sum(parts[:at]), parts[at]) if at < len(parts) else Fraction(at)

    def tick(self):
        self.ticks += 1
        if self.status == "arrived":
            return
        if self.seen != self.world.changes:
            self.plan()
        if self.status == "walking":
            self.gone = min(self.gone + self.speed, sum(lengths(self.string)))
            number = self.number()
            self.point = at_number(self.string, number)
            self.floor = next(piece[:3] for piece in self.pieces if as_number(piece[3:]) >= number)
            if self.gone == sum(lengths(self.string)):
                self.status, self.floor = "arrived", self.goal


def told_apart(settings, one, other):
    """Point 18.1."""
    gaps = [abs(a - b) for a, b in zip(one, other)]
    return max(gaps[:2]) > 2 * settings.reach or gaps[2] >= settings.tall


class CrowdTwin:
    """Points 18.2 to 18.5. All parts have whole lengths, so a whole number of lengths is one from the start, too."""

    def __init__(self, world):
        self.world = world
        self.walkers = []

    def add(self, start, goal, speed):
        walker = Twin(self.world, start, goal, speed)
        if not self.has_space(walker, walker.floor):
            return False
        walker.piece = -1
        self.walkers.append(walker)
        return True

    def has_space(self, walker, floor):
        return all(told_apart(self.world.settings, floor, w.floor) for w in self.walkers if w is not walker)

    def all_apart(self):
        return all(told_apart(self.world.settings, a.floor, b.floor) for a, b in combinations(self.walkers, 2))

    def end_of(self, walker, piece):
        """How many lengths the end of a piece is from the start of the string."""
        number = as_number(walker.pieces[piece][3:])
        parts = lengths(walker.string)
        at = int(number)
        return sum(parts[:at]) + (parts[at] * (number - at) if number > at else 0)

    def tick(self):
        return [number for number, walker in enumerate(self.walkers) if self.turn(walker)]

    def turn(self, walker):
        if walker.status == "arrived":
            return False
        if walker.seen != self.world.changes:
            walker.plan()
            walker.piece = -1
        if walker.status != "walking":
            return False
        before = (walker.floor, walker.gone)
        total = sum(lengths(walker.string))
        target = min(walker.gone + walker.speed, total)
        wanted = next(n for n in range(len(walker.pieces)) if self.end_of(walker, n) >= target)
        if self.take(walker, wanted):
            walker.gone = target
        elif walker.piece >= 0:
            walker.gone = int(self.end_of(walker, walker.piece) // 1)
        if walker.gone == total and self.take(walker, len(walker.pieces) - 1):
            walker.status = "arrived"
        walker.point = at_number(walker.string, walker.number())
        return (walker.floor, walker.gone) != before

    def take(self, walker, last):
        """Take the pieces up to one, and tell whether all of them could be taken."""
        while walker.piece < last:
            floor = walker.pieces[walker.piece + 1][:3]
            if floor != walker.floor and not self.has_space(walker, floor):
                return False
            walker.piece += 1
            walker.floor = floor
            assert self.all_apart()
        return True


def body_at(settings, journey):
    """The least and the greatest corner of a walker's body, exactly."""
    x, z, den = journey.point
    x, z, level = Fraction(x, den), Fraction(z, den), journey.floor[2]
    low = (x - settings.width, (level + settings.rise) * settings.level, z - settings.width)
    high = (x + settings.width, (level + settings.tall) * settings.level, z + settings.width)
    return low, high


def bodies_touch(one, other):
    """Whether a point is inside two open boxes."""
    return all(max(a, c) < min(b, d) for a, b, c, d in zip(one[0], one[1], other[0], other[1]))
