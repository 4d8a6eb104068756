"""Worlds with gaps between their floors, and a second way of finding links and flights in them."""

import random

from tests.reference import all_columns, all_floors, joined_pairs, meets, some_settings
from tests.trails import body_is_free

DIRECTIONS = ((1, 0), (-1, 0), (0, 1), (0, -1))


def some_islands(seed, **changes):
    """Settings, no triangles or one, boxes like pillars of some heights, and jumps."""
    chance = random.Random(seed)
    size = dict(columns=chance.randint(2, 7), rows=chance.randint(1, 5), width=chance.choice((0, 0, 0, 1)))
    settings = some_settings(chance, **{**size, **changes})
    cell, level = settings.cell, settings.level
    soup, boxes = [], []
    if chance.random() < 0.3:
        soup.append(((-9, -level, -9), (999, -level, -9), (-9, -level, 999)))
    height = chance.randint(0, 4)
    for i in range(settings.columns):
        for k in range(settings.rows):
            height = max(0, height + chance.choice((-3, -1, 0, 0, 0, 1, 3)))
            x, z = i * cell, k * cell
            if chance.random() < 0.55:
                boxes.append((x + 1, -level, z + 1, x + cell - 1, max(height, 0) * level + 1, z + cell - 1, True))
            if chance.random() < 0.12:
                low = (height + chance.randint(1, settings.tall + 5)) * level
                boxes.append((x + 1, low, z + 1, x + 2, low + chance.randint(1, 3), z + 2, chance.random() < 0.3))
    jumps = ("jumps", chance.randint(1, 5), chance.randint(0, 4), chance.randint(0, 5))
    return settings, soup, boxes, jumps


class Jumper:
    """Points 16.2 to 16.4 by their words."""

    def __init__(self, settings, soup, boxes, jumps):
        self.settings, self.jumps = settings, jumps
        self.columns = all_columns(settings, soup, boxes)
        self.floors = all_floors(settings, self.columns)
        self.joined = joined_pairs(settings, self.floors)
        self.joined |= {(other, one) for one, other in self.joined}

    def near(self, cells):
        offsets = range(-self.settings.reach, self.settings.reach + 1)
        return {(i + a, k + b) for i, k in cells for a in offsets for b in offsets}

    def has_room(self, cells, low, high):
        near = self.near(cells)
        if not near <= set(self.columns):
            return False
        return not any(meets(solid, low, high) for cell in near for solid in self.columns[cell])

    def is_flight(self, place, other):
        rise, tall = self.settings.rise, self.settings.tall
        highest = max(place[2], other[2])
        across, down = sorted((place[0], other[0])), sorted((place[1], other[1]))
        line = [(i, k) for i in range(across[0], across[1] + 1) for k in range(down[0], down[1] + 1)]
        return (self.has_room([place[:2]], place[2] + rise, highest + tall)
                and self.has_room(line, highest + rise, highest + tall)
                and self.has_room([other[:2]], other[2] + rise, highest + tall))

    def is_edge(self, floor, di, dk):
        return not any(one == floor and other[:2] == (floor[0] + di, floor[1] + dk) for one, other in self.joined)

    def is_link(self, place, other, di, dk):
        _, far, climb, drop = self.jumps
        between = [n for n in range(1, far + 1) if (place[0] + n * di, place[1] + n * dk) == other[:2]]
        if not between or other[2] - place[2] > climb or place[2] - other[2] > drop:
            return False
        return self.is_edge(place, di, dk) and self.is_edge(other, -di, -dk) and self.is_flight(place, other)

    def links(self):
        side = self.settings.tile
        places = sorted(self.floors, key=lambda f: (f[1] // side, f[0] // side, f[1], f[0], f[2]))
        found = []
        for place in places:
            for di, dk in DIRECTIONS:
                ends = [other for other in self.floors if self.is_link(place, other, di, dk)]
                ends.sort(key=lambda f: (abs(f[0] - place[0]) + abs(f[1] - place[1]), f[2]))
                found += [("link", place, other) for other in ends]
        return found


def swept(settings, place, other):
    """What the walker's body is in at some moment of a flight, wherever it begins: three open boxes."""
    unit, width, cell = settings.level, settings.width, settings.cell
    highest = max(place[2], other[2])
    top = (highest + settings.tall) * unit
    found = []
    for one, two, low in ((place, place, place[2]), (place, other, highest), (other, other, other[2])):
        across, down = sorted((one[0], two[0])), sorted((one[1], two[1]))
        bottom = (low + settings.rise) * unit
        found.append(((across[0] * cell - width, bottom, down[0] * cell - width),
                      ((across[1] + 1) * cell + width, top, (down[1] + 1) * cell + width)))
    return found


def is_swept_free(settings, soup, boxes, place, other):
    return all(body_is_free(soup, boxes, low, high) for low, high in swept(settings, place, other))
