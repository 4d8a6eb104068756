"""Points 8.1 to 8.4: cells of points, floors under and near points, and places on floors."""

from fractions import Fraction
from itertools import product
import random
import unittest

from footpath.errors import PlaceError
from footpath.locate import cell_of, floor_under, levels_at, nearest_floor, place_near, place_on, square_distance
from footpath.plates import plate_floors
from footpath.settings import Settings
from tests.reference import some_world, whole_mesh

PLATES = [("plate", 0, 0, 1, 0, (2, 3)), ("plate", 1, 0, 1, 0, (9,)), ("plate", 3, 1, 3, 1, (0,))]


def made(**changes):
    good = dict(columns=4, rows=2, cell=10, level=5, width=0, height=20, step=5, slope=(1, 2))
    return Settings(**{**good, **changes})


def corner_distance(settings, i, k, x, z):
    """The square of the distance from the square of a cell: the least one over all of its points with integers."""
    side = settings.cell
    xs, zs = range(i * side, (i + 1) * side + 1), range(k * side, (k + 1) * side + 1)
    return min((a - x) ** 2 + (b - z) ** 2 for a in xs for b in zs)


class Examples(unittest.TestCase):

    def test_examples(self):
        s = made()
        self.assertEqual([cell_of(s, 40, 0), cell_of(s, 41, 0)], [(3, 0), None])
        self.assertEqual([floor_under(s, PLATES, 12, 40, 5), floor_under(s, PLATES, 12, 39, 5)], [(1, 0, 9), (1, 0, 3)])
        self.assertIsNone(floor_under(s, PLATES, 25, 99, 5))
        self.assertEqual([nearest_floor(s, PLATES, 28, 0, 5), nearest_floor(s, PLATES, 24, 44, 5)], [(3, 1, 0), (1, 0, 9)])
        self.assertEqual([place_near(s, PLATES, 90, 0, 90), levels_at(s, PLATES, (10, 3, 0))], [(40, 20, 2), [2, 3]])


class Cells(unittest.TestCase):

    def test_all_points(self):
        s = made(columns=3, rows=2, cell=4)
        for x, z in product(range(-3, 16), range(-3, 12)):
            cells = [(i, k) for i in range(3) for k in range(2) if 4 * i <= x <= 4 * i + 4 and 4 * k <= z <= 4 * k + 4]
            # Of the cells that have the point, the last one: so the far border is in the last cell.
            self.assertEqual(cell_of(s, x, z), max(cells, default=None))

    def test_borders(self):
        told = {
            (0, 0): (0, 0), (9, 9): (0, 0), (10, 9): (1, 0), (9, 10): (0, 1), (39, 19): (3, 1), (40, 20): (3, 1), (40, 10): (3, 1),
            (10, 20): (1, 1), (-1, 0): None, (0, -1): None, (41, 20): None, (40, 21): None, (-1, 21): None,
        }
        for (x, z), wanted in told.items():
            self.assertEqual(cell_of(made(), x, z), wanted)

    def test_kind(self):
        self.assertIs(type(cell_of(made(), 40, 20)), tuple)


class Under(unittest.TestCase):

    def test_step_and_one_more(self):
        for level, step in product((-3, 0, 9), (0, 5, 8)):
            plates = [("plate", 1, 0, 1, 0, (level,))]
            s = made(step=step)
            self.assertEqual(floor_under(s, plates, 12, 5 * level - step, 5), (1, 0, level))
            self.assertIsNone(floor_under(s, plates, 12, 5 * level - step - 1, 5))
            self.assertEqual(floor_under(s, plates, 12, 10 ** 6, 5), (1, 0, level))

    def test_greatest_of_several(self):
        plates = [("plate", 1, 0, 1, 0, (level,)) for level in (4, -10, 20, 9)]
        told = {-56: None, -55: -10, 14: -10, 15: 4, 39: 4, 40: 9, 94: 9, 95: 20, 999: 20}
        for y, level in told.items():
            self.assertEqual(floor_under(made(), plates, 15, y, 5), None if level is None else (1, 0, level))

    def test_points_on_borders_and_outside(self):
        s = made()
        self.assertEqual(floor_under(s, PLATES, 9, 99, 10), None)
        self.assertEqual(floor_under(s, PLATES, 10, 99, 9), (1, 0, 9))
        self.assertEqual(floor_under(s, PLATES, 0, 99, 0), (0, 0, 2))
        self.assertEqual(floor_under(s, PLATES, 40, 0, 20), (3, 1, 0))
        for x, z in ((-1, 5), (5, -1), (41, 15), (35, 21)):
            self.assertIsNone(floor_under(s, PLATES, x, 99, z))
        self.assertIsNone(floor_under(s, [], 5, 99, 5))


class Nearest(unittest.TestCase):

    def test_no_plates(self):
        self.assertIsNone(nearest_floor(made(), [], 5, 5, 5))

    def test_distance_comes_first(self):
        plates = [("plate", 0, 0, 0, 0, (0,)), ("plate", 3, 0, 3, 0, (100,))]
        self.assertEqual(nearest_floor(made(), plates, 21, 0, 5), (3, 0, 100))
        self.assertEqual(nearest_floor(made(), plates, 19, 500, 5), (0, 0, 0))

    def test_then_the_height(self):
        plates = [("plate", 0, 0, 0, 0, (0,)), ("plate", 3, 0, 3, 0, (100,))]
        self.assertEqual(nearest_floor(made(), plates, 20, 250, 5), (0, 0, 0))
        self.assertEqual(nearest_floor(made(), plates, 20, 251, 5), (3, 0, 100))
        storeys = [("plate", 1, 1, 1, 1, (level,)) for level in (3, 7, -7, 12)]
        told = {-9999: -7, -11: -7, -10: -7, -9: 3, 24: 3, 25: 3, 26: 7, 47: 7, 48: 12, 9999: 12}
        for y, level in told.items():
            for order in (storeys, storeys[::-1]):
                self.assertEqual(nearest_floor(made(), order, 12, y, 12), (1, 1, level))

    def test_then_row_column_and_level(self):
        around = [(1, 0, 2), (0, 1, 2), (2, 1, 2), (1, 2, 2)]
        s = made(columns=3, rows=3)
        while around:
            plates = [("plate", i, k, i, k, (level,)) for i, k, level in around]
            random.Random(len(around)).shuffle(plates)
            first = min(around, key=lambda floor: (floor[1], floor[0]))
            self.assertEqual(nearest_floor(s, plates, 15, 10, 15), first)
            around.remove(first)
        # 2 and 8 levels are 15 below and above.
        plates = [("plate", 1, 1, 1, 1, (8,)), ("plate", 1, 1, 1, 1, (2,))]
        self.assertEqual(nearest_floor(s, plates, 15, 25, 15), (1, 1, 2))

    def test_points_of_a_common_corner(self):
        plates = [("plate", 1, 0, 2, 1, (5, 5, 5, 5))]
        self.assertEqual(nearest_floor(made(), plates, 20, 25, 10), (1, 0, 5))
        plates = [("plate", 1, 0, 2, 1, (5, 5, 5, 6))]
        self.assertEqual(nearest_floor(made(), plates, 20, 28, 10), (2, 1, 6))

    def test_far_points(self):
        far = 10 ** 6
        for x, z in ((-far, -far), (far, -far), (-far, far), (far, far)):
            self.assertEqual(nearest_floor(made(), PLATES, x, 0, z)[:2], (3, 1) if x > 0 else (0, 0))

    def test_square_distance(self):
        s = made(cell=3)
        for x, z in product(range(-4, 14), repeat=2):
            for i, k in ((0, 0), (1, 2), (3, 0)):
                self.assertEqual(square_distance(s, i, k, x, z), corner_distance(s, i, k, x, z))


class Places(unittest.TestCase):

    def refused(self, name, call, *arguments):
        with self.assertRaises(PlaceError) as caught:
            call(made(), *arguments)
        self.assertEqual(caught.exception.name, name)

    def test_place_on(self):
        s = made()
        told = {(12, 5): (12, 5, 0), (10, 0): (10, 0, 0), (20, 10): (20, 10, 0), (9, 5): (10, 5, 0), (25, -7): (20, 0, 0), (13, 99): (13, 10, 0)}
        for (x, z), place in told.items():
            self.assertEqual(place_on(s, PLATES, (1, 0, 3), x, z), place)
            self.assertEqual(place_on(s, PLATES, (1, 0, 9), x, z), place[:2] + (1,))

    def test_wrong_floors(self):
        for floor in ((1, 0, 4), (2, 0, 3), (1, 1, 3), (-1, 0, 2), (0, 0, 3)):
            self.refused("floor", place_on, PLATES, floor, 12, 5)
        self.refused("floor", place_on, [], (0, 0, 2), 5, 5)

    def test_place_near(self):
        s = made()
        self.assertEqual(place_near(s, PLATES, 12, 31, 5), (12, 5, 1))
        self.assertEqual(place_near(s, PLATES, 12, 29, 5), (12, 5, 0))
        self.assertEqual(place_near(s, PLATES, -5, 0, -8), (0, 0, 0))
        self.assertEqual(place_near(s, PLATES, 31, 0, 9), (31, 10, 2))
        self.refused("floor", place_near, [], 5, 5, 5)

    def test_levels_at(self):
        s = made()
        plates = [("plate", 0, 0, 1, 1, (5, 4, 4, 3)), ("plate", 1, 0, 1, 0, (20,))]
        told = {(10, 10): [3, 4, 4, 5], (10, 3): [4, 5], (3, 10): [4, 5], (0, 0): [5], (20, 20): [3], (20, 10): [3, 4], (4, 16): [4]}
        for (x, z), levels in told.items():
            self.assertEqual(levels_at(s, plates, (x, z, 0)), levels)
        self.assertEqual(levels_at(s, plates, (10, 10, 1)), [20])

    def test_wrong_plates(self):
        for at in (-1, -3, 3, 10 ** 30):
            self.refused("plate", levels_at, PLATES, (5, 5, at))
        self.refused("plate", levels_at, [], (5, 5, 0))

    def test_wrong_places(self):
        for x, z, at in ((-1, 5, 0), (21, 5, 0), (5, 11, 0), (5, -1, 0), (9, 5, 1), (29, 15, 2), (35, 9, 2), (5, 5, 2)):
            self.refused("place", levels_at, PLATES, (x, z, at))

    def test_wrong_plate_comes_before_a_wrong_place(self):
        self.refused("plate", levels_at, PLATES, (-99, -99, 3))


class SomeWorlds(unittest.TestCase):

    def test_against_the_second_way(self):
        for seed in range(60):
            s, soup, boxes = some_world(seed)
            (plates, _), floors, _ = whole_mesh(s, soup, boxes)
            given = list(plates)
            owner = {floor: at for at, plate in enumerate(plates) for floor in plate_floors(plate)}
            chance = random.Random(seed)
            for _ in range(12):
                x, z = chance.randint(-5, s.columns * s.cell + 5), chance.randint(-5, s.rows * s.cell + 5)
                y = chance.randint(-40, 40)
                self.under(s, plates, floors, x, y, z)
                self.near(s, plates, owner, x, y, z)
            self.assertEqual(plates, given)

    def under(self, s, plates, floors, x, y, z):
        cell = cell_of(s, x, z)
        below = [level for i, k, level in floors if (i, k) == cell and Fraction(level * s.level - s.step) <= y]
        wanted = cell + (max(below),) if below else None
        self.assertEqual(floor_under(s, plates, x, y, z), wanted)

    def near(self, s, plates, owner, x, y, z):
        found = nearest_floor(s, plates, x, y, z)
        if not owner:
            self.assertIsNone(found)
            return
        ranks = {
            (corner_distance(s, i, k, x, z), abs(level * s.level - y), k, i, level): (i, k, level)
            for i, k, level in owner
        }
        self.assertEqual(found, ranks[min(ranks)])
        place = place_near(s, plates, x, y, z)
        self.assertEqual(place, place_on(s, plates, found, x, z))
        self.assertEqual(place[2], owner[found])
        self.assertEqual((place[0] - x) ** 2 + (place[1] - z) ** 2, min(ranks)[0])
        self.assertIn(found[2], levels_at(s, plates, place))
        wanted = [f[2] for f in owner if owner[f] == place[2] and corner_distance(s, f[0], f[1], *place[:2]) == 0]
        self.assertEqual(levels_at(s, plates, place), sorted(wanted))


if __name__ == "__main__":
    unittest.main()
