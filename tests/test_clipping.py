"""Points 3.1 and 3.2: normals, flat triangles, and what triangles have over rectangles."""

from fractions import Fraction
from itertools import permutations, product
import unittest

from footpath.clipping import extent, is_flat, less, normal
from tests.reference import FAR, heights_over


def turned(triangle):
    """The same triangle, seen from the other side."""
    return (triangle[0], triangle[2], triangle[1])


def heights(triangle, x0, z0, x1, z1):
    """The extent as a pair of Fractions, with its form looked at, or None."""
    found = extent(triangle, x0, z0, x1, z1)
    if found is None:
        return None
    (low, low_den), (high, high_den) = found
    assert type(found) is tuple and [type(one) for one in found] == [tuple, tuple], found
    assert {type(number) for one in found for number in one} == {int}, found
    assert low_den > 0 and high_den > 0, found
    return (Fraction(low, low_den), Fraction(high, high_den))


class Normals(unittest.TestCase):

    def test_example(self):
        ramp = ((0, 0, 0), (30, 10, 0), (0, 0, 30))
        self.assertEqual(normal(ramp), (300, -900, 0))

    def test_each_axis(self):
        self.assertEqual(normal(((1, 1, 1), (3, 1, 1), (1, 4, 1))), (0, 0, 6))
        self.assertEqual(normal(((1, 1, 1), (1, 3, 1), (1, 1, 4))), (6, 0, 0))
        self.assertEqual(normal(((1, 1, 1), (1, 1, 3), (4, 1, 1))), (0, 6, 0))

    def test_all_numbers_differ(self):
        self.assertEqual(normal(((1, 2, 3), (5, 9, 2), (-4, 6, 11))), (60, -27, 51))

    def test_is_square_to_the_edges(self):
        a, b, c = (7, -3, 2), (-5, 11, 4), (1, 8, -13)
        for one, other, third in permutations((a, b, c)):
            n = normal((one, other, third))
            self.assertNotEqual(n, (0, 0, 0))
            for p, q in ((one, other), (other, third), (third, one)):
                self.assertEqual(sum(n[axis] * (q[axis] - p[axis]) for axis in range(3)), 0)

    def test_turned(self):
        triangle = ((1, 2, 3), (5, 9, 2), (-4, 6, 11))
        self.assertEqual(normal(turned(triangle)), tuple(-number for number in normal(triangle)))

    def test_lines_and_points(self):
        self.assertEqual(normal(((4, 5, 6), (4, 5, 6), (4, 5, 6))), (0, 0, 0))
        self.assertEqual(normal(((0, 0, 0), (1, 2, 3), (-2, -4, -6))), (0, 0, 0))
        self.assertEqual(normal(((0, 0, 0), (0, 0, 0), (5, 7, 9))), (0, 0, 0))

    def test_farthest_coordinates(self):
        triangle = ((-FAR, -FAR, -FAR), (FAR, -FAR, -FAR), (-FAR, FAR, FAR))
        self.assertEqual(normal(triangle), (0, -4 * FAR * FAR, 4 * FAR * FAR))


class Flatness(unittest.TestCase):

    def flat(self, triangle, slope, wanted):
        for first, second, third in permutations(triangle):
            self.assertIs(is_flat((first, second, third), slope), wanted, (triangle, slope))

    def test_example(self):
        ramp = ((0, 0, 0), (30, 10, 0), (0, 0, 30))
        self.assertIs(is_flat(ramp, (9, 10)), True)
        self.assertIs(is_flat(ramp, (10, 10)), False)

    def test_just_flat_and_no_more(self):
        # Its normal is 25 * (-3, 4, 0) or the opposite: 16 * 25 of 25 * 25.
        ramp = ((0, 0, 0), (4, 3, 0), (0, 0, 5))
        self.flat(ramp, (16, 25), True)
        self.flat(ramp, (17, 25), False)
        self.flat(ramp, (640, 1000), True)
        self.flat(ramp, (641, 1000), False)

    def test_slope_along_z_counts_as_well(self):
        ramp = ((0, 0, 0), (5, 0, 0), (0, 3, 4))
        self.flat(ramp, (16, 25), True)
        self.flat(ramp, (17, 25), False)
        # The normal (-1, 1, -1): a third.
        self.flat(((0, 0, 0), (1, 1, 0), (0, 1, 1)), (1, 3), True)
        self.flat(((0, 0, 0), (1, 1, 0), (0, 1, 1)), (334, 1000), False)

    def test_level_triangles(self):
        for slope in ((0, 1), (1, 2), (1, 1), (1000, 1000)):
            self.flat(((0, 7, 0), (9, 7, 0), (0, 7, 9)), slope, True)
            self.flat(((0, 7, 0), (1, 7, 0), (0, 7, 1)), slope, True)

    def test_num_is_den(self):
        self.flat(((-FAR, 0, -FAR), (FAR, 0, -FAR), (-FAR, 1, FAR)), (1, 1), False)
        self.flat(((-FAR, 0, -FAR), (FAR, 0, -FAR), (-FAR, 1, FAR)), (999, 1000), True)

    def test_upright_triangles(self):
        wall = ((0, 0, 0), (9, 0, 3), (0, 9, 0))
        self.flat(wall, (0, 1), True)
        self.flat(wall, (1, 1000), False)
        self.flat(wall, (1, 1), False)

    def test_lines_and_points_are_not_flat(self):
        for slope in ((0, 1), (1, 2), (1, 1)):
            self.flat(((3, 3, 3), (3, 3, 3), (3, 3, 3)), slope, False)
            self.flat(((0, 5, 0), (9, 5, 0), (18, 5, 0)), slope, False)
            self.flat(((0, 5, 0), (0, 5, 0), (8, 5, 9)), slope, False)
            self.flat(((-FAR, -FAR, -FAR), (0, 0, 0), (FAR, FAR, FAR)), slope, False)

    def test_farthest_coordinates(self):
        # The normal is 4 * 10 ** 12 times (0, -1, 1): a half, exactly.
        steep = ((-FAR, -FAR, -FAR), (FAR, -FAR, -FAR), (-FAR, FAR, FAR))
        self.flat(steep, (1, 2), True)
        self.flat(steep, (501, 1000), False)
        self.flat(((-FAR, -FAR, -FAR), (FAR, -FAR, -FAR), (-FAR, FAR, FAR - 1)), (1, 2), False)


class Less(unittest.TestCase):

    def test_compares_values(self):
        told = [(-7, 2), (-10, 3), (-1, 100), (0, 5), (1, 100), (1, 3), (333334, 1000000), (1, 2), (3, 1)]
        for at, one in enumerate(told):
            for there, other in enumerate(told):
                self.assertIs(less(one, other), at < there, (one, other))

    def test_equal_in_other_terms(self):
        for one, other in (((1, 2), (2, 4)), ((-3, 9), (-1, 3)), ((0, 1), (0, 7)), ((5, 5), (1, 1))):
            self.assertIs(less(one, other), False)
            self.assertIs(less(other, one), False)

    def test_large_numbers(self):
        self.assertIs(less((10 ** 40, 10 ** 40 + 1), (10 ** 40 + 1, 10 ** 40 + 2)), True)
        self.assertIs(less((10 ** 40 + 1, 10 ** 40 + 2), (10 ** 40, 10 ** 40 + 1)), False)


class Extents(unittest.TestCase):

    def over(self, triangle, wanted, rectangle=(0, 0, 10, 10)):
        for first, second, third in permutations(triangle):
            self.assertEqual(heights((first, second, third), *rectangle), wanted, (triangle, rectangle))

    def test_example(self):
        ramp = ((0, 0, 0), (30, 10, 0), (0, 0, 30))
        self.assertIsNone(extent(ramp, 40, 0, 50, 10))
        low, high = extent(ramp, 10, 0, 20, 10)
        self.assertEqual([low[0] * 3 == 10 * low[1], high[0] * 3 == 20 * high[1]], [True, True])

    def test_inside(self):
        self.over(((1, 5, 1), (9, -7, 1), (1, 3, 9)), (-7, 5))
        self.over(((0, 5, 0), (10, -7, 0), (0, 3, 10)), (-7, 5))

    def test_over_all_of_the_rectangle(self):
        # Its height is x + 2 * z everywhere.
        self.over(((-100, -300, -100), (100, -100, -100), (-100, 100, 100)), None, (200, 0, 210, 10))
        self.over(((-100, -300, -100), (200, 0, -100), (-100, 300, 200)), (0, 30))
        self.over(((-100, -300, -100), (200, 0, -100), (-100, 300, 200)), (-30, -3), (-10, -10, -1, -1))

    def test_no_corner_of_the_one_in_the_other(self):
        self.over(((-10, 0, 4), (20, 30, 4), (20, 30, 6)), (10, 20))

    def test_box_around_the_triangle_meets_the_rectangle(self):
        self.over(((-9, 0, 10), (-9, 0, 25), (10, 0, 25)), None)
        self.over(((11, 0, 9), (9, 0, 11), (11, 0, 11)), (0, 0))
        self.over(((11, 0, 10), (10, 0, 11), (11, 0, 11)), None)

    def test_beside_each_side(self):
        for shift in (11, -11):
            self.over(((shift, 0, 0), (shift + 10, 1, 0), (shift, 2, 10)), None)
            self.over(((0, 0, shift), (10, 1, shift), (0, 2, shift + 10)), None)

    def test_touches_a_side(self):
        self.over(((10, 4, 2), (10, 6, 6), (15, 99, 4)), (4, 6))
        self.over(((0, 4, 2), (0, 6, 6), (-5, 99, 4)), (4, 6))
        self.over(((2, 4, 10), (6, 6, 10), (4, 99, 15)), (4, 6))
        self.over(((2, 4, 0), (6, 6, 0), (4, 99, -5)), (4, 6))

    def test_touches_a_side_with_a_corner(self):
        self.over(((10, 4, 5), (15, 9, 5), (15, 9, 9)), (4, 4))
        self.over(((0, 4, 5), (-5, 9, 5), (-5, 9, 9)), (4, 4))
        self.over(((5, 4, 10), (5, 9, 15), (9, 9, 15)), (4, 4))
        self.over(((5, 4, 0), (5, 9, -5), (9, 9, -5)), (4, 4))

    def test_touches_a_side_along_a_part(self):
        # The side is longer than the rectangle's: it is cut to the heights from 10 to 20.
        self.over(((10, 0, -10), (10, 30, 20), (15, 99, 4)), (10, 20))
        self.over(((-10, 0, 0), (20, 30, 0), (4, 99, -7)), (10, 20))

    def test_touches_a_corner(self):
        for x, z in product((0, 10), repeat=2):
            dx, dz = (1 if x else -1), (1 if z else -1)
            self.over(((x, 4, z), (x + dx, 9, z), (x, 9, z + dz)), (4, 4))
            self.over(((x - 5 * dx, 4, z + 5 * dz), (x + 5 * dx, 8, z - 5 * dz), (x + 9 * dx, 99, z + 9 * dz)), (6, 6))
            self.over(((x - 5 * dx, 4, z + 6 * dz), (x + 5 * dx, 8, z - 4 * dz), (x + 9 * dx, 99, z + 9 * dz)), None)

    def test_one_length_beside_a_corner(self):
        for x, z in product((-1, 11), repeat=2):
            self.over(((x, 4, z), (x, 5, z), (x, 6, z)), None)

    def test_upright(self):
        # In the plane z = 5, from x = -10 to 20.
        self.over(((-10, 0, 5), (20, 0, 5), (5, 30, 5)), (0, 30))
        self.over(((-10, 0, 5), (20, 0, 5), (-10, 30, 5)), (0, 20))
        self.over(((-10, 0, 10), (20, 0, 10), (-10, 30, 10)), (0, 20))
        self.over(((-10, 0, 11), (20, 0, 11), (-10, 30, 11)), None)
        self.over(((0, 0, -10), (0, 0, 20), (0, 30, -10)), (0, 20))
        # Across the corner (10, 0), and through the corner alone.
        self.over(((5, 0, -5), (15, 0, 5), (5, 30, -5)), (0, 15))
        self.over(((6, 0, -5), (16, 0, 5), (6, 30, -5)), None)

    def test_upright_over_one_point(self):
        self.over(((10, 3, 10), (10, -8, 10), (10, 12, 10)), (-8, 12))
        self.over(((3, 3, 4), (3, 3, 4), (3, 12, 4)), (3, 12))
        self.over(((11, 3, 10), (11, -8, 10), (11, 12, 10)), None)

    def test_lines(self):
        self.over(((-10, 0, 5), (20, 30, 5), (5, 15, 5)), (10, 20))
        self.over(((-10, 0, -10), (-10, 0, -10), (20, 30, 20)), (10, 20))
        self.over(((5, 5, 5), (20, 20, 20), (8, 8, 8)), (5, 10))
        self.over(((-5, 0, 5), (5, 20, -5), (0, 10, 0)), (10, 10))
        self.over(((-5, 0, 4), (5, 20, -6), (0, 10, -1)), None)
        self.over(((10, 0, 3), (30, 20, 3), (20, 10, 3)), (0, 0))

    def test_points(self):
        for x, z in product((0, 4, 10), repeat=2):
            self.over(((x, 7, z), (x, 7, z), (x, 7, z)), (7, 7))
        for x, z in ((-1, 4), (11, 4), (4, -1), (4, 11)):
            self.over(((x, 7, z), (x, 7, z), (x, 7, z)), None)

    def test_fractions(self):
        self.over(((0, 0, 0), (7, 1, 0), (0, 0, 30)), (0, Fraction(3, 7)), (0, 0, 3, 3))
        self.over(((0, 0, 0), (7, -1, 0), (0, 0, 30)), (Fraction(-3, 7), 0), (0, 0, 3, 3))
        self.over(((0, 0, 0), (7, -1, 11), (7, -1, 11)), (Fraction(-3, 11), 0), (0, 0, 3, 3))

    def test_farthest_coordinates(self):
        whole = ((-FAR, -FAR, -FAR), (FAR, FAR, -FAR), (-FAR, -FAR, FAR))
        self.over(whole, (-FAR, FAR), (-FAR, -FAR, FAR, FAR))
        self.over(whole, (-FAR, 1 - FAR), (-FAR, -FAR, 1 - FAR, 1 - FAR))
        thin = ((-FAR, -FAR, -FAR), (FAR, FAR, FAR - 1), (FAR, FAR - 1, FAR))
        for rectangle in ((0, 0, 1, 1), (-FAR, -FAR, 1 - FAR, 1 - FAR), (999990, 999990, FAR, FAR), (3, -7, 999, 999)):
            self.over(thin, heights_over(thin, *rectangle), rectangle)

    def test_all_small_triangles(self):
        # Each number is beyond an end, on an end or between the ends, so that all kinds of touching
        # occur, and among them lines, points and upright triangles.
        rectangle = (0, -2, 3, 1)
        corners = list(product((-2, 0, 2, 5), (-3, -1, 1, 2)))
        for (ax, az), (bx, bz), (cx, cz) in product(corners, repeat=3):
            triangle = ((ax, 4, az), (bx, -5, bz), (cx, 13, cz))
            self.assertEqual(heights(triangle, *rectangle), heights_over(triangle, *rectangle), triangle)

    def test_arguments_are_not_changed(self):
        triangle = ((-10, 0, 4), (20, 30, 4), (20, 30, 6))
        for _ in range(2):
            self.assertEqual(heights(triangle, 0, 0, 10, 10), (10, 20))
        self.assertEqual(triangle, ((-10, 0, 4), (20, 30, 4), (20, 30, 6)))


if __name__ == "__main__":
    unittest.main()
