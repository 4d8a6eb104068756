"""Points 5.1 to 5.3: open levels, floors, and joined floors."""

from itertools import product
import random
import unittest

from footpath.floors import floors_of, levels_of, open_levels, partner
from footpath.settings import Settings
from tests.reference import all_columns, all_floors, joined_pairs, some_world

SIDES = ((1, 0), (-1, 0), (0, 1), (0, -1))
GROUND = (0, 1, 1)


def made(**changes):
    good = dict(columns=5, rows=5, cell=10, level=1, width=0, height=6, step=2, slope=(1, 2), slack=1)
    return Settings(**{**good, **changes})


def grounds(settings):
    """Columns with nothing but a ground that ends at the level 1."""
    cells = [(i, k) for i in range(settings.columns) for k in range(settings.rows)]
    return {cell: [GROUND] for cell in cells}


class Examples(unittest.TestCase):

    def test_examples(self):
        s = made(columns=2, rows=1)
        self.assertEqual(open_levels(s, [(0, 1, 1), (6, 8, 7), (14, 16, 14), (30, 31, None)]), [8])
        self.assertEqual(partner(s, {(0, 0): [3], (1, 0): [0, 5]}, (0, 0, 3), 1, 0), (1, 0, 5))


class Open(unittest.TestCase):

    def test_no_solids(self):
        self.assertEqual(open_levels(made(), []), [])

    def test_last_solid_has_nothing_above(self):
        self.assertEqual(open_levels(made(), [(-9, -3, -3)]), [-3])

    def test_gaps_of_just_the_height_and_one_level_less(self):
        for y in (-20, 0, 7):
            self.assertEqual(open_levels(made(), [(y, y + 1, y + 1), (y + 7, y + 8, None)]), [y + 1])
            self.assertEqual(open_levels(made(), [(y, y + 1, y + 1), (y + 6, y + 8, None)]), [])
            self.assertEqual(open_levels(made(height=7), [(y, y + 1, y + 1), (y + 7, y + 8, None)]), [])

    def test_only_the_next_solid_above_counts(self):
        solids = [(0, 1, 1), (2, 3, None), (20, 21, 21), (27, 28, 28)]
        self.assertEqual(open_levels(made(), solids), [21, 28])

    def test_tops_and_slack(self):
        for slack in (0, 1, 5, 1000):
            s = made(slack=slack)
            for hi in (-4, 0, 9):
                self.assertEqual(open_levels(s, [(hi - 2000, hi, hi)]), [hi])
                self.assertEqual(open_levels(s, [(hi - 2000, hi, hi - slack)]), [hi])
                self.assertEqual(open_levels(s, [(hi - 2000, hi, hi - slack - 1)]), [])
                self.assertEqual(open_levels(s, [(hi - 2000, hi, None)]), [])

    def test_top_at_the_height_0(self):
        self.assertEqual(open_levels(made(slack=0), [(-1, 0, 0)]), [0])


class Floors(unittest.TestCase):

    def levels(self, wanted, settings, columns, cell=(2, 2)):
        given = {cell: list(solids) for cell, solids in columns.items()}
        self.assertEqual(levels_of(settings, columns, *cell), wanted)
        self.assertEqual(columns, given)

    def test_ground_alone(self):
        for width, free in ((0, 25), (1, 9), (10, 9), (11, 1), (20, 1), (21, 0), (40, 0)):
            s = made(width=width)
            columns = grounds(s)
            found = floors_of(s, columns, sorted(columns))
            self.assertEqual(sorted(found), sorted(columns))
            self.assertEqual(sum(levels == [1] for levels in found.values()), free)
            self.assertEqual(sum(levels == [] for levels in found.values()), 25 - free)

    def test_border_of_each_side(self):
        s = made(width=10, columns=3, rows=4)
        floors = floors_of(s, grounds(s), sorted(grounds(s)))
        self.assertEqual([cell for cell, levels in floors.items() if levels], [(1, 1), (1, 2)])

    def test_reach_greater_than_the_grid(self):
        s = made(columns=1, rows=1, width=40)
        self.assertEqual(levels_of(s, {(0, 0): [GROUND]}, 0, 0), [])
        self.assertEqual(levels_of(made(columns=1, rows=1), {(0, 0): [GROUND]}, 0, 0), [1])

    def test_solids_of_neighbours(self):
        # The range is from 1 + 2 to 1 + 6, so from 3 to 7.
        s = made(width=10)
        told = {(1, 3): [1], (1, 4): [], (3, 4): [], (4, 6): [], (6, 7): [], (6, 9): [], (7, 9): [1], (0, 9): [], (2, 7): []}
        for (lo, hi), wanted in told.items():
            for di, dk in product((-1, 0, 1), repeat=2):
                if (di, dk) != (0, 0):
                    columns = grounds(s)
                    columns[(2 + di, 2 + dk)] = [(lo, hi, None)]
                    self.levels(wanted, s, columns)
                    self.levels([1], made(), columns)

    def test_how_far_reach_goes(self):
        for width, reach in ((0, 0), (1, 1), (10, 1), (11, 2)):
            s = made(width=width)
            for i, k in product(range(5), repeat=2):
                columns = grounds(s)
                columns[(i, k)] = [(4, 6, None)]
                blocked = abs(i - 2) <= reach and abs(k - 2) <= reach
                self.levels([] if blocked else [1], s, columns)

    def test_neighbours_without_ground(self):
        s = made(width=10)
        columns = {cell: [] for cell in grounds(s)}
        columns[(2, 2)] = [GROUND]
        self.levels([1], s, columns)

    def test_several_floors_of_a_cell(self):
        columns = grounds(made())
        columns[(2, 2)] = [(-9, -8, -8), (-4, -3, None), (0, 1, 1), (7, 9, 8), (20, 21, 21)]
        self.levels([1, 9, 21], made(), columns)
        columns[(1, 1)] = [(10, 12, None)]
        self.levels([1, 21], made(width=10), columns)

    def test_rise_0_asks_for_all_room_from_the_floor_on(self):
        s = made(width=10, step=0)
        columns = grounds(s)
        columns[(1, 2)] = [(0, 2, 2)]
        self.levels([], s, columns)
        self.levels([1], made(width=10, step=1), columns)

    def test_results_are_not_shared(self):
        s = made()
        columns = grounds(s)
        for _ in range(2):
            found = floors_of(s, columns, [(0, 0), (1, 0)])
            self.assertEqual(found, {(0, 0): [1], (1, 0): [1]})
            found[(0, 0)].append(99)
            self.assertEqual(found[(1, 0)], [1])
        self.assertEqual(columns, grounds(s))
        self.assertEqual(floors_of(s, columns, []), {})

    def test_columns_within_reach_are_enough(self):
        s = made(width=10)
        near = {cell: solids for cell, solids in grounds(s).items() if cell[0] <= 2 and cell[1] <= 2}
        self.assertEqual(floors_of(s, near, [(1, 1), (0, 0)]), {(1, 1): [1], (0, 0): []})

    def test_against_the_second_way(self):
        for seed in range(150):
            s, soup, boxes = some_world(seed)
            columns = all_columns(s, soup, boxes)
            found = floors_of(s, columns, sorted(columns))
            for levels in found.values():
                self.assertEqual(levels, sorted(levels))
                self.assertTrue(all(other - one > 2 * s.rise for one, other in zip(levels, levels[1:])))
            told = [(i, k, level) for (i, k), levels in found.items() for level in levels]
            self.assertEqual(sorted(told), sorted(all_floors(s, columns)), seed)


class Partners(unittest.TestCase):

    def test_exactly_rise_and_one_more(self):
        for step in (0, 1, 2):
            s = made(step=step)
            for (di, dk), sign, level in product(SIDES, (1, -1), (-7, 0, 4)):
                near = (2 + di, 2 + dk)
                other = level + sign * step
                self.assertEqual(partner(s, {near: [other]}, (2, 2, level), di, dk), near + (other,))
                self.assertIsNone(partner(s, {near: [other + sign]}, (2, 2, level), di, dk))

    def test_direction(self):
        floors = {(2 + di, 2 + dk): [10 + at % 2] for at, (di, dk) in enumerate(SIDES)}
        floors[(2, 2)] = [10]
        for at, (di, dk) in enumerate(SIDES):
            self.assertEqual(partner(made(), floors, (2, 2, 10), di, dk), (2 + di, 2 + dk, 10 + at % 2))

    def test_no_floors_there(self):
        self.assertIsNone(partner(made(), {}, (0, 0, 1), 1, 0))
        self.assertIsNone(partner(made(), {(0, 0): [1], (1, 0): []}, (0, 0, 1), 1, 0))
        self.assertIsNone(partner(made(), {(0, 0): [1]}, (0, 0, 1), 0, -1))

    def test_one_of_several(self):
        floors = {(1, 0): [-5, 0, 5, 10]}
        told = {-8: None, -7: -5, -3: -5, -2: 0, 2: 0, 3: 5, 7: 5, 8: 10, 12: 10, 13: None}
        for level, other in told.items():
            wanted = None if other is None else (1, 0, other)
            self.assertEqual(partner(made(), floors, (0, 0, level), 1, 0), wanted)
        self.assertEqual(floors, {(1, 0): [-5, 0, 5, 10]})

    def test_joined_floors_are_partners_of_one_another(self):
        for seed in range(100):
            s, soup, boxes = some_world(seed)
            columns = all_columns(s, soup, boxes)
            floors = floors_of(s, columns, random.Random(seed).sample(sorted(columns), len(columns)))
            places = {(i, k, level) for (i, k), levels in floors.items() for level in levels}
            joined = joined_pairs(s, places)
            joined |= {(other, one) for one, other in joined}
            found = {(place, partner(s, floors, place, di, dk)) for place in places for di, dk in SIDES}
            self.assertEqual({pair for pair in found if pair[1] is not None}, joined, seed)


if __name__ == "__main__":
    unittest.main()
