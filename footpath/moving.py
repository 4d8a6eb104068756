"""Walkers on their way: positions on strings, and journeys through a world that changes."""

from footpath.errors import PlaceError
from footpath.locate import nearest_floor, nearest_point
from footpath.papers import is_before, paper, point_at
from footpath.plates import owners
from footpath.strings import find_way


def part_length(points, at):
    """Return the length, for walking, of the part behind a point of a string."""
    (x, z), (next_x, next_z) = points[at], points[at + 1]
    return max(abs(next_x - x), abs(next_z - z))


def advanced(points, position, speed):
    """Return the position on a string behind a tick of a walker with a speed."""
    at, done, _ = position
    left = done + speed
    while at < len(points) - 1:
        length = part_length(points, at)
        if left < length:
            return (at, left, length) if left > 0 else (at, 0, 1)
        left -= length
        at += 1
    return (at, 0, 1)


def exact_point(points, position):
    """Return the point of a position as (x, z, den): x / den and z / den."""
    return point_at(points, position)


class Journey:
    """A walker on its way through a world to a goal."""

    def __init__(self, world, start, goal, speed):
        if speed < 1:
            raise PlaceError("speed")
        plates, _ = world.mesh()
        if not plates:
            raise PlaceError("floor")
        settings = world.settings
        self._world = world
        self.speed = speed
        self.floor = nearest_floor(settings, plates, start[0], start[1], start[2])
        self.goal = nearest_floor(settings, plates, goal[0], goal[1], goal[2])
        self.aim = nearest_point(settings, self.goal[0], self.goal[1], goal[0], goal[2])
        x, z = nearest_point(settings, self.floor[0], self.floor[1], start[0], start[2])
        self.point = (x, z, 1)
        self.status = "blocked"
        self.string = []
        self.pieces = []
        self.position = (0, 0, 1)
        self.ticks = 0
        self.plans = 0
        self.seen = 0
        self.make_plan()

    def needs_plan(self):
        """Return True if a box has been put in or taken out since the last plan of a walker on its way."""
        return self.status != "arrived" and self.seen != self._world.changes

    def make_plan(self):
        """Find the way to the goal in the world as it is now."""
        self.plans += 1
        self.seen = self._world.changes
        self.position = (0, 0, 1)
        self.status = "blocked"
        self.string = []
        self.pieces = []
        mesh = self._world.mesh()
        way = self.way_on(mesh)
        if way is not None:
            self.string = list(way[3])
            self.pieces = paper(self._world.settings, mesh, way)[2]
            self.point = exact_point(self.string, self.position)
            self.status = "walking" if len(self.string) > 1 else "arrived"

    def way_on(self, mesh):
        """Return the found way from the walker's point, rounded down, to the aim, or None."""
        owner = owners(mesh[0])
        if self.floor not in owner or self.goal not in owner:
            return None
        x, z, den = self.point
        aim_x, aim_z = self.aim
        return find_way(mesh, (x // den, z // den, owner[self.floor]), (aim_x, aim_z, owner[self.goal]))

    def needed_piece(self, position):
        """Return the index of the first piece whose end is not before a position of the string."""
        at = 0
        while is_before(self.pieces[at][3:], position):
            at += 1
        return at

    def stand_at(self, position):
        """Put the walker at a position of its string."""
        self.position = position
        self.point = exact_point(self.string, position)

    def has_come(self):
        """Return True if the walker stands at the end of its string."""
        return self.position[0] == len(self.string) - 1

    def tick(self):
        """Go on for one tick, and return the status."""
        self.ticks += 1
        if self.needs_plan():
            self.make_plan()
        if self.status == "walking":
            self.stand_at(advanced(self.string, self.position, self.speed))
            self.floor = self.pieces[self.needed_piece(self.position)][:3]
            if self.has_come():
                self.status = "arrived"
                self.floor = self.goal
        return self.status
