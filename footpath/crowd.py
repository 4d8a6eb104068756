"""Crowds: walkers on their way in one world, none of which gets too near to another one."""

from footpath.errors import PlaceError
from footpath.moving import Journey, advanced, part_length


def are_apart(settings, one, other):
    """Return True if two floors are apart, so that walkers on them cannot touch."""
    far = 2 * settings.reach
    return (abs(one[0] - other[0]) > far or abs(one[1] - other[1]) > far
            or abs(one[2] - other[2]) >= settings.tall)


def last_stop(points, position):
    """Return the last position not behind a position that is a whole number of lengths from a point of the string."""
    at, top, den = position
    if top == 0:
        return (at, 0, 1)
    length = part_length(points, at)
    done = top * length // den
    return (at, done, length) if done > 0 else (at, 0, 1)


def has_all(journey, piece):
    """Return True if a walker stands at the end of its string and has taken all pieces, up to one with an index."""
    return journey.has_come() and piece == len(journey.pieces) - 1


class Member:
    """A walker of a crowd: its journey, and the index of its piece."""

    def __init__(self, journey):
        self.journey = journey
        self.piece = -1


class Crowd:
    """Walkers in a world, each with a floor that is apart from those of all others."""

    def __init__(self, world):
        self.world = world
        self.members = []
        self.ticks = 0

    def add(self, start, goal, speed):
        """Add a walker, and return its number."""
        journey = Journey(self.world, start, goal, speed)
        number = len(self.members)
        if not self.has_space(number, journey.floor):
            raise PlaceError("space")
        self.members.append(Member(journey))
        return number

    def floor_of(self, number):
        """Return the floor of a walker."""
        return self.members[number].journey.floor

    def has_space(self, number, floor):
        """Return True if a floor is apart from those of all walkers but the one with the number."""
        for other in range(len(self.members)):
            if other != number and not are_apart(self.world.settings, floor, self.floor_of(other)):
                return False
        return True

    def tick(self):
        """Let a tick pass, and return the list of the numbers of the walkers that have moved."""
        self.ticks += 1
        moved = []
        for number in range(len(self.members)):
            if self.take_turn(number):
                moved.append(number)
        return moved

    def take_turn(self, number):
        """Let a walker take its turn, and return True if it has moved."""
        member = self.members[number]
        journey = member.journey
        if journey.needs_plan():
            journey.make_plan()
            member.piece = -1
        if journey.status != "walking":
            return False
        piece, floor, position = self.next_turn(number)
        has_moved = (floor, position) != (journey.floor, journey.position)
        member.piece = piece
        journey.floor = floor
        journey.stand_at(position)
        if has_all(journey, piece):
            journey.status = "arrived"
        return has_moved

    def next_turn(self, number):
        """Return the piece, the floor and the position of a walker that is walking, behind its turn."""
        journey = self.members[number].journey
        piece, floor = self.members[number].piece, journey.floor
        aim = advanced(journey.string, journey.position, journey.speed)
        needed = journey.needed_piece(aim)
        # At the end of the string, all pieces that are left are wanted.
        last = len(journey.pieces) - 1 if aim[0] == len(journey.string) - 1 else needed
        while piece < last:
            ahead = journey.pieces[piece + 1][:3]
            if ahead != floor and not self.has_space(number, ahead):
                break
            piece += 1
            floor = ahead
        if piece >= needed:
            return (piece, floor, aim)
        if piece < 0:
            return (piece, floor, journey.position)
        return (piece, floor, last_stop(journey.string, journey.pieces[piece][3:]))

    def is_stuck(self):
        """Return True if nobody moves until a box is put in or taken out."""
        return not any(self.goes_on(number) for number in range(len(self.members)))

    def goes_on(self, number):
        """Return True if a walker would make a new plan, move or arrive in its turn, the others standing as they do."""
        journey = self.members[number].journey
        if journey.needs_plan():
            return True
        if journey.status != "walking":
            return False
        piece, floor, position = self.next_turn(number)
        return (floor, position) != (journey.floor, journey.position) or has_all(journey, piece)
