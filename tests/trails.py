"""Second ways of writing and of checking papers of ways, with fractions, and papers to try them on."""

from fractions import Fraction
import random

from footpath.plates import mesh
from footpath.solids import columns_of
from footpath.strings import contacts, find_way, gates_of
from tests.reference import is_touched, meets, solids_over, some_settings


def grid_columns(settings, soup, boxes):
    return columns_of(settings, soup, boxes, 0, 0, settings.columns - 1, settings.rows - 1)


def grid_mesh(settings, soup, boxes):
    return mesh(settings, grid_columns(settings, soup, boxes))


def some_place(chance, settings, plates):
    """A place on some plate: in a corner of a cell, on a side of it, or anywhere."""
    at = chance.randrange(len(plates))
    _, i0, k0, i1, k1, _ = plates[at]
    cell = settings.cell
    ends = ((i0, i1 + 1), (k0, k1 + 1))
    numbers = []
    for low, high in ends:
        if chance.random() < 0.3:
            numbers.append(cell * chance.randint(low, high))
        else:
            numbers.append(chance.randint(cell * low, cell * high))
    return (numbers[0], numbers[1], at)


def some_ways(chance, settings, found, many):
    """Found ways between some places of a mesh."""
    if not found[0]:
        return []
    pairs = [(some_place(chance, settings, found[0]), some_place(chance, settings, found[0])) for _ in range(many)]
    if chance.random() < 0.2:
        pairs[0] = (pairs[0][0], pairs[0][0])
    ways = [find_way(found, start, goal) for start, goal in pairs]
    return [way for way in ways if way is not None]


def as_number(position):
    """A position as one fraction, counted from the start of the string; the end of a part is the next point."""
    at, top, den = position
    return at + Fraction(top, den)


def at_number(points, number):
    """The point (x, z), as fractions, at such a number."""
    at = int(number)
    if at == number:
        return tuple(Fraction(n) for n in points[at])
    return tuple(Fraction(p) + (q - p) * (number - at) for p, q in zip(points[at], points[at + 1]))


def told_pieces(settings, found, way):
    """Point 12.2: the pieces as (i, k, level, number), by the crossings of each axis alone."""
    _, plates, portals, points, bends = way
    stops = [as_number(p) for p in contacts(gates_of(found, plates, portals), points, bends)] + [len(points) - 1]
    _, i0, k0, i1, k1, _ = found[0][plates[0]]
    cell = [sorted((low, number // settings.cell, high))[1] for low, number, high in zip((i0, k0), points[0], (i1, k1))]
    pieces = []
    here = Fraction(0)
    for number, plate in enumerate(plates):
        times = sorted(crossings(settings.cell, points, int(here), cell))
        ends = []
        for time, axis, sign in times:
            if int(here) + time < stops[number]:
                ends.append((cell[0], cell[1], int(here) + time))
                cell[axis] += sign
        ends.append((cell[0], cell[1], stops[number]))
        _, i0, k0, i1, _, levels = found[0][plate]
        pieces += [(i, k, levels[(k - k0) * (i1 - i0 + 1) + i - i0], end) for i, k, end in ends]
        here = Fraction(stops[number])
        if number < len(portals):
            _, p, _, x0, _, x1, _ = found[1][portals[number]]
            cell[0 if x0 == x1 else 1] += 1 if plate == p else -1
    return pieces


def crossings(side, points, part, cell):
    """The times (time, axis, sign) at which a whole part of a string leaves its cell, and then the next ones."""
    if part + 1 == len(points):
        return []
    p, q = points[part:part + 2]
    times = []
    for axis in range(2):
        goes = q[axis] - p[axis]
        if goes:
            sign = 1 if goes > 0 else -1
            line = (cell[axis] + (goes > 0)) * side
            while (line - q[axis]) * sign < 0:
                times.append((Fraction(line - p[axis], goes), axis, sign))
                line += sign * side
    return times


class Checker:
    """Point 12.3, by the words."""

    def __init__(self, settings, soup, boxes):
        self.settings, self.soup, self.boxes = settings, soup, boxes
        self.known = {}

    def solids(self, i, k):
        if (i, k) not in self.known:
            self.known[(i, k)] = solids_over(self.settings, self.soup, self.boxes, i, k)
        return self.known[(i, k)]

    def result(self, paper):
        _, points, pieces = paper
        for at, piece in enumerate(pieces):
            before = pieces[at - 1] if at else None
            for fault in ("cell", "step", "position", "outside", "ground", "room"):
                if not getattr(self, fault)(points, before, piece):
                    return ("refused", fault, at)
        if not pieces or as_number(pieces[-1][3:]) != len(points) - 1:
            return ("refused", "end", len(pieces))
        return ("taken",)

    def cell(self, points, before, piece):
        return piece[0] in range(self.settings.columns) and piece[1] in range(self.settings.rows)

    def step(self, points, before, piece):
        if before is None:
            return True
        steps = [(before[0] + a, before[1] + b) for a, b in ((1, 0), (-1, 0), (0, 1), (0, -1))]
        return piece[:2] in steps and piece[2] - before[2] in range(-self.settings.rise, self.settings.rise + 1)

    def position(self, points, before, piece):
        at, top, den = piece[3:]
        if at not in range(len(points)) or den < 1 or (top != 0 and at == len(points) - 1):
            return False
        if not 0 <= Fraction(top, den) < 1:
            return False
        return before is None or as_number(before[3:]) <= as_number(piece[3:])

    def outside(self, points, before, piece):
        begin = Fraction(0) if before is None else as_number(before[3:])
        end = as_number(piece[3:])
        numbers = [begin, end] + [Fraction(n) for n in range(len(points)) if begin <= n <= end]
        side = self.settings.cell
        for number in numbers:
            for n, least in zip(at_number(points, number), piece):
                if not least * side <= n <= (least + 1) * side:
                    return False
        return True

    def ground(self, points, before, piece):
        tops = [top for _, _, top in self.solids(piece[0], piece[1])]
        return any(top in range(piece[2] - self.settings.slack, piece[2] + 1) for top in tops if top is not None)

    def room(self, points, before, piece):
        return has_room_near(self, piece[0], piece[1], piece[2] + self.settings.rise, piece[2] + self.settings.tall)


def has_room_near(checker, i, k, low, high):
    """Whether all cells within reach of a cell are in the grid and their solids leave an open range."""
    offsets = range(-checker.settings.reach, checker.settings.reach + 1)
    for a in offsets:
        for b in offsets:
            if not checker.cell(None, None, (i + a, k + b)):
                return False
            if any(meets(solid, low, high) for solid in checker.solids(i + a, k + b)):
                return False
    return True


def changed_paper(chance, paper):
    """A paper with a piece left out, repeated, or put elsewhere, or with one number changed."""
    _, points, pieces = paper
    points, pieces = list(points), list(pieces)
    kind = chance.randrange(8)
    at = chance.randrange(len(pieces) + 1)
    if kind == 0 and at < len(pieces):
        del pieces[at]
    elif kind == 1 and at < len(pieces):
        pieces.insert(at, pieces[at])
    elif kind == 2 and at + 1 < len(pieces):
        pieces[at:at + 2] = pieces[at + 1:at - 1:-1] if at else pieces[1::-1]
    elif kind == 3:
        spot = chance.randrange(len(points))
        axis = chance.randrange(2)
        points[spot] = tuple(n + chance.choice((-1, 1)) * (a == axis) for a, n in enumerate(points[spot]))
    elif kind == 4:
        points.insert(chance.randrange(len(points) + 1), chance.choice(points))
    elif at < len(pieces):
        numbers = list(pieces[at])
        spot = chance.randrange(6)
        numbers[spot] += chance.choice((-2, -1, 1, 2, chance.randint(-9, 9)))
        pieces[at] = tuple(numbers)
    return ("paper", points, pieces)


def stands_free(settings, soup, boxes, x, z, level):
    """The first part of point 0.7, at a point of fractions."""
    low = (x - settings.width, (level + settings.rise) * settings.level, z - settings.width)
    high = (x + settings.width, (level + settings.tall) * settings.level, z + settings.width)
    return body_is_free(soup, boxes, low, high)


def body_is_free(soup, boxes, low, high):
    """Whether the open box between two corners is empty, or touches no triangle and no closed box."""
    if not all(a < b for a, b in zip(low, high)):
        return True
    if any(is_touched(low, high, triangle) for triangle in soup):
        return False
    return not any(all(box[n] < high[n] and low[n] < box[n + 3] for n in range(3)) for box in boxes)


def standing_points(paper):
    """Points (x, z, level) at which the walker of a paper stands: at all ends of its pieces, and between them."""
    _, points, pieces = paper
    begin = Fraction(0)
    for _, _, level, *position in pieces:
        end = as_number(position)
        stops = [begin, end] + [Fraction(n) for n in range(int(begin) + 1, int(end) + 1)]
        for number in stops + [(a + b) / 2 for a, b in zip(sorted(stops), sorted(stops)[1:])]:
            yield at_number(points, number) + (level,)
        begin = end


def whole_points(paper):
    """The points (x, z, level) with whole numbers of the string of a paper, each with the levels that it has there."""
    _, points, pieces = paper
    found = set()
    for at, (one, other) in enumerate(zip(points, points[1:] or points)):
        (x0, x1), (z0, z1) = sorted((one[0], other[0])), sorted((one[1], other[1]))
        long = max(x1 - x0, z1 - z0, 1)
        for x in range(x0, x1 + 1):
            for z in range(z0, z1 + 1):
                if (x - one[0]) * (other[1] - one[1]) == (z - one[1]) * (other[0] - one[0]):
                    number = at + Fraction(max(abs(x - one[0]), abs(z - one[1])), long)
                    found |= {(x, z, level) for level in levels_there(pieces, number)}
    return sorted(found)


def levels_there(pieces, number):
    """The levels of the pieces that have a position."""
    begin = 0
    levels = []
    for _, _, level, *position in pieces:
        end = as_number(position)
        if begin <= number <= end:
            levels.append(level)
        begin = end
    return levels


def some_garden(seed, **changes):
    """A wide ground, sloping or level, with posts on it and some low steps: ways go far and bend."""
    chance = random.Random(seed)
    settings = some_settings(chance, **{**dict(columns=chance.randint(4, 9), rows=chance.randint(3, 9),
                                               width=chance.choice((0, 0, 1, 2)), slope=(1, 3)), **changes})
    far = 3 * settings.cell * 9
    tilt = chance.choice((0, 0, 1, 2)) * settings.level
    soup = [((-9, 0, -9), (far, tilt, -9), (-9, tilt, far))]
    boxes = []
    for _ in range(chance.randint(2, 9)):
        i, k = chance.randrange(settings.columns), chance.randrange(settings.rows)
        x, z = i * settings.cell + 1, k * settings.cell + 1
        high = chance.choice((settings.level, 9 * settings.level, 9 * settings.level))
        wide, deep = chance.choice(((1, 1), (1, 1), (settings.cell + 1, 1), (1, settings.cell + 1)))
        boxes.append((x, 0, z, x + wide, high, z + deep, high == settings.level))
    return settings, soup, boxes
