"""Points 1.1 to 1.3: settings, their ranges, and the tiles of the grid."""

import inspect
import unittest

from footpath.errors import FootpathError, SettingsError
from footpath.settings import Settings, ceiled

GOOD = dict(columns=5, rows=3, cell=10, level=2, width=11, height=37, step=9, slope=(1, 2), slack=1, tile=4)
ORDER = ["columns", "rows", "cell", "level", "width", "height", "step", "slope", "slack", "tile"]

# A value for each setting that is out of its range, whatever the others are.
BAD = dict(columns=0, rows=65, cell=2, level=1001, width=-1, height=0, step=-1, slope=(2, 1), slack=1001, tile=1)


def made(**changes):
    return Settings(**{**GOOD, **changes})


def grid(columns, rows, tile):
    return made(columns=columns, rows=rows, tile=tile)


class Ranges(unittest.TestCase):

    def refused(self, name, **changes):
        with self.assertRaises(SettingsError) as caught:
            made(**changes)
        self.assertEqual(caught.exception.name, name, changes)

    def test_example(self):
        s = Settings(columns=5, rows=3, cell=10, level=2, width=11, height=37, step=9, slope=(1, 2), tile=4)
        self.assertEqual([s.tall, s.rise, s.reach], [19, 4, 2])
        self.assertEqual(s.tiles(), [(0, 0), (1, 0)])
        self.assertEqual(s.tile_cells(1, 0), [(4, 0), (4, 1), (4, 2)])

    def test_fields(self):
        s = made()
        for name in ORDER:
            self.assertEqual(getattr(s, name), GOOD[name], name)

    def test_slack_and_tile_left_out(self):
        s = Settings(**{name: GOOD[name] for name in ORDER[:8]})
        self.assertEqual([s.slack, s.tile], [0, 8])

    def test_others_are_not_left_out(self):
        for left_out in ORDER[:8]:
            with self.assertRaises(TypeError):
                Settings(**{name: GOOD[name] for name in ORDER if name != left_out})

    def test_keywords_only(self):
        with self.assertRaises(TypeError):
            Settings(*[GOOD[name] for name in ORDER])
        parameters = inspect.signature(Settings).parameters
        self.assertEqual(list(parameters), ORDER)
        self.assertTrue(all(one.kind is inspect.Parameter.KEYWORD_ONLY for one in parameters.values()))

    def test_least_and_greatest(self):
        ends = dict(columns=(1, 64), rows=(1, 64), slack=(0, 1000), tile=(2, 16))
        for name, (least, greatest) in ends.items():
            self.assertEqual(getattr(made(**{name: least}), name), least)
            self.assertEqual(getattr(made(**{name: greatest}), name), greatest)
            self.refused(name, **{name: least - 1})
            self.refused(name, **{name: greatest + 1})

    def test_cell(self):
        self.assertEqual(made(cell=3).cell, 3)
        self.assertEqual(made(cell=1000).cell, 1000)
        self.refused("cell", cell=2)
        self.refused("cell", cell=1001)
        self.refused("cell", cell=0)

    def test_level(self):
        self.assertEqual(made(level=1).level, 1)
        self.assertEqual(made(level=1000, step=0).level, 1000)
        self.refused("level", level=0)
        self.refused("level", level=-1)
        self.refused("level", level=1001)

    def test_width(self):
        for cell in (3, 10, 1000):
            self.assertEqual(made(cell=cell, width=0).reach, 0)
            self.assertEqual(made(cell=cell, width=4 * cell).reach, 4)
            self.refused("width", cell=cell, width=4 * cell + 1)
            self.refused("width", cell=cell, width=-1)

    def test_height(self):
        for level in (1, 7, 1000):
            self.assertEqual(made(level=level, step=0, height=1).tall, 1)
            self.assertEqual(made(level=level, step=0, height=1000 * level).tall, 1000)
            self.refused("height", level=level, step=0, height=1000 * level + 1)
            self.refused("height", level=level, step=0, height=0)
            self.refused("height", level=level, step=0, height=-level)

    def test_step_from_0_on(self):
        self.assertEqual(made(step=0).rise, 0)
        self.refused("step", step=-1)
        self.refused("step", step=-100)

    def test_step_and_height(self):
        # 2 * rise is even: it is less than tall if tall is odd and one more.
        self.assertEqual(made(level=1, height=9, step=4).rise, 4)
        self.refused("step", level=1, height=9, step=5)
        self.assertEqual(made(level=1, height=10, step=4).rise, 4)
        self.refused("step", level=1, height=10, step=5)
        self.refused("step", level=1, height=2, step=1)

    def test_step_and_height_are_rounded_apart(self):
        # tall is 17 / 4 rounded up, 5; rise is 11 / 4 rounded down, 2.
        s = made(level=4, height=17, step=11)
        self.assertEqual([s.tall, s.rise], [5, 2])
        self.refused("step", level=4, height=16, step=11)
        self.refused("step", level=4, height=17, step=12)
        self.assertEqual(made(level=1000, height=1, step=999).rise, 0)
        self.refused("step", level=1000, height=1, step=1000)

    def test_slope(self):
        for slope in ((0, 1), (1, 1), (0, 1000), (999, 1000), (1000, 1000), (2, 4)):
            self.assertEqual(made(slope=slope).slope, slope)
        for slope in ((0, 0), (-1, 1), (2, 1), (1, 1001), (0, 1001), (1001, 1001), (1, -1), (-2, -1), (0, -1), (1, 0)):
            self.refused("slope", slope=slope)

    def test_reach(self):
        told = {0: 0, 1: 1, 9: 1, 10: 1, 11: 2, 20: 2, 21: 3, 31: 4, 40: 4}
        for width, reach in told.items():
            self.assertEqual(made(cell=10, width=width).reach, reach, width)

    def test_tall_and_rise(self):
        told = {1: (1, 0), 2: (1, 0), 20: (10, 3), 21: (11, 3)}
        for height, (tall, rise) in told.items():
            s = made(level=2, height=height, step=7 if tall > 6 else 1)
            self.assertEqual((s.tall, s.rise), (tall, rise))

    def test_first_of_several(self):
        for at, name in enumerate(ORDER):
            self.refused(name, **{name: BAD[name]})
            for other in ORDER[at + 1:]:
                self.refused(name, **{name: BAD[name], other: BAD[other]})
            self.refused(name, **{later: BAD[later] for later in ORDER[at:]})

    def test_ranges_that_depend_on_a_wrong_setting(self):
        self.refused("cell", cell=0, width=1)
        self.refused("level", level=0, height=0, step=-1)
        self.refused("height", height=2001, step=9999)

    def test_error_is_one_of_the_program(self):
        with self.assertRaises(FootpathError):
            made(tile=17)


class Ceiled(unittest.TestCase):

    def test_rounds_up(self):
        told = {(0, 5): 0, (1, 5): 1, (4, 5): 1, (5, 5): 1, (6, 5): 2, (37, 2): 19, (7, 1): 7, (1, 1000): 1}
        for (number, unit), up in told.items():
            self.assertEqual(ceiled(number, unit), up, (number, unit))

    def test_below_0(self):
        told = {(-1, 5): 0, (-4, 5): 0, (-5, 5): -1, (-6, 5): -1, (-9, 5): -1, (-10, 5): -2, (-7, 1): -7}
        for (number, unit), up in told.items():
            self.assertEqual(ceiled(number, unit), up, (number, unit))

    def test_is_the_least_whole_number_not_below(self):
        for unit in range(1, 9):
            for number in range(-40, 41):
                up = ceiled(number, unit)
                self.assertTrue((up - 1) * unit < number <= up * unit, (number, unit))

    def test_large_numbers(self):
        self.assertEqual(ceiled(10 ** 40 + 1, 10 ** 20), 10 ** 20 + 1)
        self.assertEqual(ceiled(-10 ** 40 - 1, 10 ** 20), -10 ** 20)


class Tiles(unittest.TestCase):

    def test_has_cell(self):
        s = grid(5, 3, 4)
        around = [(i, k) for i in range(-2, 8) for k in range(-2, 8) if s.has_cell(i, k)]
        self.assertEqual(around, [(i, k) for i in range(5) for k in range(3)])
        self.assertIs(s.has_cell(4, 2), True)
        self.assertIs(s.has_cell(5, 2), False)

    def test_tiles_in_order(self):
        self.assertEqual(grid(5, 9, 4).tiles(), [(0, 0), (1, 0), (0, 1), (1, 1), (0, 2), (1, 2)])

    def test_how_many_tiles(self):
        for columns, across in ((1, 1), (3, 1), (4, 1), (5, 2), (8, 2), (9, 3), (64, 16)):
            self.assertEqual(grid(columns, 1, 4).tiles(), [(a, 0) for a in range(across)])
            self.assertEqual(grid(1, columns, 4).tiles(), [(0, b) for b in range(across)])

    def test_cells_in_order(self):
        self.assertEqual(grid(5, 5, 2).tile_cells(1, 1), [(2, 2), (3, 2), (2, 3), (3, 3)])

    def test_cells_of_tiles_that_are_cut_off(self):
        s = grid(5, 7, 3)
        self.assertEqual(s.tile_cells(1, 0), [(3, 0), (4, 0), (3, 1), (4, 1), (3, 2), (4, 2)])
        self.assertEqual(s.tile_cells(0, 2), [(0, 6), (1, 6), (2, 6)])
        self.assertEqual(s.tile_cells(1, 2), [(3, 6), (4, 6)])
        self.assertEqual(grid(1, 1, 16).tile_cells(0, 0), [(0, 0)])

    def test_each_cell_is_in_one_tile(self):
        for columns, rows, tile in ((5, 3, 4), (1, 64, 16), (17, 16, 16), (7, 9, 2), (64, 5, 3)):
            s = grid(columns, rows, tile)
            cells = [(k // tile, i // tile, k, i) for a, b in s.tiles() for i, k in s.tile_cells(a, b)]
            self.assertEqual(cells, sorted(cells))
            self.assertEqual(sorted((i, k) for _, _, k, i in cells), [(i, k) for i in range(columns) for k in range(rows)])

    def test_results_are_not_shared(self):
        s = grid(5, 3, 4)
        s.tiles().clear()
        s.tile_cells(0, 0).clear()
        self.assertEqual(s.tiles(), [(0, 0), (1, 0)])
        self.assertEqual(len(s.tile_cells(0, 0)), 12)

    def test_kinds(self):
        s = grid(5, 3, 4)
        self.assertEqual({type(one) for one in (s.tiles(), s.tile_cells(0, 0))}, {list})
        self.assertEqual({type(one) for one in s.tiles() + s.tile_cells(0, 0) + [s.slope]}, {tuple})


if __name__ == "__main__":
    unittest.main()
