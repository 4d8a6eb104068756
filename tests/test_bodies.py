"""Point 0.7: what is around a walker on a floor, told from the triangles and boxes alone."""

from fractions import Fraction
import unittest

from footpath.plates import mesh, plate_floors
from footpath.solids import columns_of
from tests.reference import heights_over, is_flat_thing, is_touched, some_world


def body_box(settings, floor):
    """Where the body is at all points of the cell of a floor; a body without width has its cell."""
    i, k, level = floor
    side, width = settings.cell, settings.width
    low = (i * side - width, (level + settings.rise) * settings.level, k * side - width)
    high = ((i + 1) * side + width, (level + settings.tall) * settings.level, (k + 1) * side + width)
    return low, high


def ends_below(settings, soup, boxes, floor):
    """Where the flat things in the column of a floor end, measured in levels, exactly."""
    i, k, _ = floor
    side = settings.cell
    x0, z0, x1, z1 = i * side, k * side, (i + 1) * side, (k + 1) * side
    over = [heights_over(triangle, x0, z0, x1, z1) for triangle in soup if is_flat_thing(settings, triangle)]
    highest = [heights[1] for heights in over if heights is not None]
    for bx0, _, bz0, bx1, by1, bz1, flat in boxes:
        if flat and bx0 <= x1 and x0 <= bx1 and bz0 <= z1 and z0 <= bz1:
            highest.append(by1)
    return [Fraction(height, settings.level) for height in highest]


class Bodies(unittest.TestCase):

    def holds(self, settings, soup, boxes, seed):
        plates, _ = mesh(settings, columns_of(settings, soup, boxes, 0, 0, settings.columns - 1, settings.rows - 1))
        floors = [floor for plate in plates for floor in plate_floors(plate)]
        for floor in floors:
            low, high = body_box(settings, floor)
            self.assertFalse(any(is_touched(low, high, triangle) for triangle in soup), (seed, floor))
            for box in boxes:
                apart = any(box[axis + 3] <= low[axis] or high[axis] <= box[axis] for axis in range(3))
                self.assertTrue(apart, (seed, floor, box))
            ends = ends_below(settings, soup, boxes, floor)
            level = floor[2]
            self.assertTrue(any(level - settings.slack - 1 <= end <= level for end in ends), (seed, floor))
        return len(floors)

    def test_touching(self):
        low, high = (0, 0, 0), (4, 4, 4)
        self.assertTrue(is_touched(low, high, ((-1, 2, 2), (5, 2, 2), (5, 2, 3))))
        self.assertFalse(is_touched(low, high, ((0, 0, 0), (0, 4, 0), (0, 0, 4))))
        self.assertFalse(is_touched(low, high, ((3, 5, 2), (5, 3, 2), (5, 5, 2))))
        self.assertTrue(is_touched(low, high, ((2, 2, 2), (2, 2, 2), (2, 2, 2))))

    def test_some_worlds(self):
        many = sum(self.holds(*some_world(seed), seed) for seed in range(150))
        self.assertGreater(many, 500)

    def test_wide_walkers(self):
        many = 0
        for seed in range(60):
            s, soup, boxes = some_world(seed, width=1 + seed % 5, columns=6, rows=6, slack=1)
            many += self.holds(s, soup, boxes, seed)
        self.assertGreater(many, 200)


if __name__ == "__main__":
    unittest.main()
