"""Points 4.1 to 4.3: solids, columns, the cells of boxes, and soups and boxes that are wrong."""

from itertools import permutations, product
import random
import unittest

from footpath.errors import SoupError
from footpath.settings import Settings
from footpath.solids import cells_of, check_boxes, check_soup, column, columns_of, merged
from tests.reference import FAR, all_columns, column_over, some_world


def made(**changes):
    good = dict(columns=5, rows=3, cell=10, level=4, width=0, height=37, step=9, slope=(1, 2))
    return Settings(**{**good, **changes})


def level_at(y):
    """A triangle at one height over all of a small grid."""
    return ((-9, y, -9), (300, y, -9), (-9, y, 300))


class Examples(unittest.TestCase):

    def test_examples(self):
        s = made()
        self.assertEqual(merged([(7, 9, None), (1, 3, 3), (3, 5, None), (8, 9, 9)]), [(1, 5, 3), (7, 9, 9)])
        floor = [((0, 5, 0), (90, 5, 0), (0, 5, 90))]
        self.assertEqual(column(s, floor, [], 1, 1), [(1, 2, 2)])
        self.assertEqual(column(s, floor, [(25, 20, 0, 30, 41, 5, False)], 2, 0), [(1, 2, 2), (5, 11, None)])
        self.assertEqual(cells_of(s, (25, 0, 0, 30, 9, 5, True)), (2, 0, 3, 0))


class Checks(unittest.TestCase):

    def refused(self, at, check, given):
        with self.assertRaises(SoupError) as caught:
            check(given)
        self.assertEqual(caught.exception.at, at)

    def test_good_soups(self):
        self.assertIsNone(check_soup([]))
        self.assertIsNone(check_soup([((-FAR, -FAR, -FAR), (FAR, FAR, FAR), (0, 0, 0)), ((1, 1, 1),) * 3]))

    def test_each_coordinate_of_a_soup(self):
        good = ((1, 2, 3), (4, 5, 6), (7, 8, 9))
        for corner, axis, wrong in product(range(3), range(3), (FAR + 1, -FAR - 1, 10 ** 40, -10 ** 40)):
            points = [list(point) for point in good]
            points[corner][axis] = wrong
            self.refused(2, check_soup, [good, good, tuple(tuple(point) for point in points), good])

    def test_first_of_several_triangles(self):
        good, wrong = ((0, 0, 0),) * 3, ((0, 0, FAR + 1),) * 3
        self.refused(0, check_soup, [wrong, wrong])
        self.refused(1, check_soup, [good, wrong, good, wrong])

    def test_good_boxes(self):
        self.assertIsNone(check_boxes([]))
        self.assertIsNone(check_boxes([(-FAR, -FAR, -FAR, FAR, FAR, FAR, True), (0, 0, 0, 1, 1, 1, False)]))
        self.assertIsNone(check_boxes([(FAR - 1, FAR - 1, FAR - 1, FAR, FAR, FAR, False)]))

    def test_ends_of_boxes(self):
        good = (1, 2, 3, 4, 5, 6)
        for axis in range(3):
            for low, high in ((5, 5), (6, 5), (-FAR - 1, 0), (0, FAR + 1), (FAR, FAR + 1), (-10 ** 40, 10 ** 40)):
                wrong = list(good)
                wrong[axis], wrong[axis + 3] = low, high
                for flat in (True, False):
                    self.refused(1, check_boxes, [good + (flat,), tuple(wrong) + (flat,)])

    def test_first_of_several_boxes(self):
        good, wrong = (0, 0, 0, 1, 1, 1, True), (0, 0, 0, 0, 1, 1, True)
        self.refused(0, check_boxes, [wrong, good])
        self.refused(2, check_boxes, [good, good, wrong, wrong])


class Merged(unittest.TestCase):

    def column(self, wanted, solids):
        for order in permutations(solids):
            given = list(order)
            self.assertEqual(merged(given), wanted)
            self.assertEqual(given, list(order))

    def test_none_and_one(self):
        self.column([], [])
        self.column([(-3, 4, None)], [(-3, 4, None)])

    def test_touching_and_apart(self):
        self.column([(1, 5, 5)], [(1, 3, None), (3, 5, 5)])
        self.column([(1, 3, None), (4, 5, 5)], [(1, 3, None), (4, 5, 5)])
        self.column([(-5, -1, -3)], [(-5, -3, -3), (-3, -1, None)])
        self.column([(-5, -3, -3), (-2, -1, None)], [(-5, -3, -3), (-2, -1, None)])

    def test_tops(self):
        self.column([(0, 9, 7)], [(0, 5, 5), (3, 7, 7), (6, 9, None)])
        self.column([(0, 9, 9)], [(0, 9, 9), (2, 3, 3)])
        self.column([(0, 9, 3)], [(0, 9, None), (2, 3, 3)])
        self.column([(0, 9, None)], [(0, 9, None), (2, 3, None)])
        self.column([(-9, -1, -1)], [(-9, -5, -5), (-5, -1, -1)])
        self.column([(-2, 1, 0)], [(-2, 0, 0), (-1, 1, None)])

    def test_one_joins_many(self):
        self.column([(0, 9, 6)], [(0, 1, 1), (3, 4, None), (5, 6, 6), (1, 9, None)])

    def test_the_same_again(self):
        self.column([(2, 4, 4)], [(2, 4, 4), (2, 4, None), (2, 4, 4)])

    def test_results_are_not_the_argument(self):
        given = [(1, 2, 2)]
        merged(given).clear()
        self.assertEqual(given, [(1, 2, 2)])

    def test_all_small_lists(self):
        ends = [(lo, hi) for lo in range(-2, 4) for hi in range(lo + 1, 5)]
        some = [(lo, hi, top) for lo, hi in ends for top in (hi, None)]
        for solids in product(some, some, some[::3]):
            found = merged(list(solids))
            self.assertEqual(found, column_over(solids))
            self.assertTrue(all(one[1] < other[0] for one, other in zip(found, found[1:])))


class Columns(unittest.TestCase):

    def over(self, wanted, triangle, settings=None, cell=(0, 0)):
        for corners in permutations(triangle):
            self.assertEqual(column(settings or made(), [corners], [], *cell), wanted)

    def test_heights_on_a_level(self):
        for n in (-2, -1, 0, 1, 5):
            self.over([(n, n + 1, n + 1)], level_at(4 * n))

    def test_heights_between_levels(self):
        self.over([(1, 2, 2)], level_at(5))
        self.over([(1, 2, 2)], level_at(7))
        self.over([(-2, -1, -1)], level_at(-5))
        self.over([(-1, 0, 0)], level_at(-1))

    def test_ramp_is_rounded_outwards(self):
        # The height is x * 3 / 10: over the first cell it is from 0 to 3, over the next one to 6.
        ramp = ((-10, -3, -90), (90, 27, -90), (-10, -3, 90))
        self.over([(0, 1, 1)], ramp)
        self.over([(0, 2, 2)], ramp, cell=(1, 0))
        self.over([(1, 3, 3)], ramp, cell=(2, 0))
        self.over([(0, 3, 3)], ramp, made(level=1))

    def test_fractions_just_beside_a_level(self):
        # Over the first cell the height is at most y * 10 / far: 8, or a little more or less.
        for far, y, hi in ((20, 16, 2), (20, 17, 3), (19, 16, 3), (21, 16, 2), (999999, 800000, 3), (FAR, 799999, 2)):
            self.over([(0, hi, hi)], ((0, 0, 0), (far, y, 0), (0, 0, 20)))
            self.over([(-hi, 0, 0)], ((0, 0, 0), (far, -y, 0), (0, 0, 20)))

    def test_steep_things_have_no_top(self):
        ramp = ((0, 0, 0), (10, 11, 0), (0, 0, 10))
        self.over([(0, 3, None)], ramp)
        self.over([(0, 3, 3)], ramp, made(slope=(1, 4)))

    def test_upright_triangles_lines_and_points(self):
        self.over([(0, 5, None)], ((2, 0, 2), (8, 0, 5), (2, 20, 2)))
        self.over([(0, 5, 5)], ((2, 0, 2), (8, 0, 5), (2, 20, 2)), made(slope=(0, 1)))
        self.over([(-1, 2, None)], ((2, -1, 2), (8, 7, 5), (5, 3, 5)))
        self.over([(-1, 2, None)], ((2, -1, 2), (8, 7, 5), (8, 7, 5)))
        self.over([(2, 3, None)], ((2, 8, 2), (8, 8, 2), (5, 8, 2)))
        self.over([(2, 3, None)], ((2, 8, 2),) * 3)
        self.over([(-2, -1, None)], ((2, -7, 2),) * 3, made(slope=(0, 1)))

    def test_on_the_sides_of_cells(self):
        point = ((10, 8, 20),) * 3
        s = made()
        full = [cell for cell, solids in columns_of(s, [point], [], 0, 0, 4, 2).items() if solids]
        self.assertEqual(sorted(full), [(0, 1), (0, 2), (1, 1), (1, 2)])

    def test_outside_of_the_cell(self):
        self.over([], ((11, 0, 0), (30, 0, 0), (11, 0, 30)))
        # The rectangle around it meets the cell, but it does not.
        self.over([], ((21, 0, 0), (0, 0, 21), (21, 0, 21)))
        self.over([(0, 1, 1)], ((20, 0, 0), (0, 0, 20), (20, 0, 20)))

    def test_boxes(self):
        s = made()
        for y0, y1, lo, hi in ((0, 4, 0, 1), (0, 5, 0, 2), (3, 4, 0, 1), (3, 5, 0, 2), (-1, 1, -1, 1), (-8, -4, -2, -1), (-9, -3, -3, 0)):
            for flat in (True, False):
                box = (12, y0, 12, 18, y1, 18, flat)
                self.assertEqual(column(s, [], [box], 1, 1), [(lo, hi, hi if flat else None)])
                self.assertEqual(column(s, [], [box], 0, 1), [])

    def test_boxes_with_a_side_or_a_corner_alone(self):
        s = made(columns=3)
        cells = {(i, k) for i in range(3) for k in range(3)}
        met = {
            (10, 10, 20, 20): cells,
            (11, 11, 19, 19): {(1, 1)},
            (10, 11, 19, 19): {(0, 1), (1, 1)},
            (11, 11, 19, 20): {(1, 1), (1, 2)},
            (-5, 11, 0, 12): {(0, 1)},
            (-5, -5, 0, 0): {(0, 0)},
            (30, 30, 40, 40): {(2, 2)},
            (31, 0, 40, 30): set(),
            (0, -9, 30, -1): set(),
        }
        for (x0, z0, x1, z1), wanted in met.items():
            box = (x0, 0, z0, x1, 4, z1, True)
            found = columns_of(s, [], [box], 0, 0, 2, 2)
            self.assertEqual({cell for cell in found if found[cell]}, wanted)

    def test_triangles_and_boxes_in_one_column(self):
        soup = [level_at(4), level_at(40)]
        boxes = [(0, 8, 0, 50, 16, 30, False), (0, 60, 0, 50, 64, 30, True)]
        self.assertEqual(column(made(), soup, boxes, 4, 2), [(1, 4, 2), (10, 11, 11), (15, 16, 16)])

    def test_which_cells(self):
        s = made()
        self.assertEqual(set(columns_of(s, [], [], 1, 0, 3, 1)), {(i, k) for i in (1, 2, 3) for k in (0, 1)})
        self.assertEqual(set(columns_of(s, [], [], -3, -1, 1, 0)), {(0, 0), (1, 0)})
        self.assertEqual(set(columns_of(s, [], [], 4, 2, 9, 99)), {(4, 2)})
        self.assertEqual(columns_of(s, [level_at(0)], [], 5, 0, 9, 2), {})
        self.assertEqual(len(columns_of(s, [], [], -FAR, -FAR, FAR, FAR)), 15)

    def test_results_are_not_shared(self):
        s, soup = made(), [level_at(4)]
        boxes = [(0, 40, 0, 50, 44, 30, False)]
        for _ in range(2):
            found = columns_of(s, soup, boxes, 0, 0, 4, 2)
            self.assertEqual(found[(0, 0)], [(1, 2, 2), (10, 11, None)])
            for solids in found.values():
                solids.clear()
        self.assertEqual((soup, boxes), ([level_at(4)], [(0, 40, 0, 50, 44, 30, False)]))
        empty = columns_of(s, [], [], 0, 0, 1, 0)
        empty[(0, 0)].append("mine")
        self.assertEqual(empty[(1, 0)], [])

    def test_against_the_second_way(self):
        for seed in range(150):
            s, soup, boxes = some_world(seed)
            wanted = all_columns(s, soup, boxes)
            self.assertEqual(columns_of(s, soup, boxes, 0, 0, s.columns - 1, s.rows - 1), wanted, seed)
            i, k = random.Random(seed).choice(sorted(wanted))
            self.assertEqual(column(s, soup[::-1], boxes[::-1], i, k), wanted[(i, k)], seed)


class Cells(unittest.TestCase):

    def test_all_rectangles(self):
        s = made(columns=3, rows=2, cell=3)
        numbers = range(-2, 13)
        for x0, x1, z0, z1 in product(numbers, numbers, numbers, numbers):
            if x0 < x1 and z0 < z1:
                across = [i for i in range(3) if x0 <= 3 * i + 3 and 3 * i <= x1]
                down = [k for k in range(2) if z0 <= 3 * k + 3 and 3 * k <= z1]
                wanted = (across[0], down[0], across[-1], down[-1]) if across and down else None
                self.assertEqual(cells_of(s, (x0, 0, z0, x1, 1, z1, True)), wanted)

    def test_far_boxes(self):
        s = made()
        self.assertEqual(cells_of(s, (-FAR, 0, -FAR, FAR, 1, FAR, False)), (0, 0, 4, 2))
        self.assertIsNone(cells_of(s, (-FAR, 0, -FAR, -1, 1, FAR, False)))
        self.assertIsNone(cells_of(s, (51, 0, -FAR, FAR, 1, FAR, False)))
        self.assertEqual(cells_of(s, (50, 0, 30, FAR, 1, FAR, False)), (4, 2, 4, 2))


if __name__ == "__main__":
    unittest.main()
