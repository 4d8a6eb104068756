"""Points 11.1 to 11.3: the walker's box, and what touches it."""

from fractions import Fraction
from itertools import permutations, product
import random
import unittest

from footpath.boxes import first_touched, is_free, touches, touches_box, walker_box
from footpath.settings import Settings
from tests.reference import FAR, is_touched

BOX = (0, 0, 0, 4, 4, 4)
AXES = ((1, 0, 0), (0, 1, 0), (0, 0, 1))


def made(**changes):
    good = dict(columns=9, rows=9, cell=10, level=5, width=3, height=20, step=5, slope=(1, 2))
    return Settings(**{**good, **changes})


def moved(triangle, by):
    return tuple(tuple(number + more for number, more in zip(point, by)) for point in triangle)


def flipped(triangle, axis):
    """A triangle seen in the middle plane of BOX."""
    return tuple(tuple(4 - n if at == axis else n for at, n in enumerate(point)) for point in triangle)


def every_way(triangle):
    """The triangle in all orders, along all axes and in all directions, as it lies to BOX."""
    for axes in permutations(range(3)):
        turned = [tuple(point[axis] for axis in axes) for point in triangle]
        for signs in product((False, True), repeat=3):
            seen = tuple(turned)
            for axis in range(3):
                seen = flipped(seen, axis) if signs[axis] else seen
            for order in permutations(seen):
                yield order


class Touches(unittest.TestCase):

    def touched(self, triangle):
        for seen in every_way(triangle):
            self.assertIs(touches(BOX, seen), True, seen)

    def free(self, triangle):
        for seen in every_way(triangle):
            self.assertIs(touches(BOX, seen), False, seen)

    def test_examples(self):
        self.assertIs(touches(BOX, ((-1, 2, 2), (5, 2, 2), (5, 2, 3))), True)
        self.assertIs(touches(BOX, ((0, 0, 0), (0, 4, 0), (0, 0, 4))), False)
        self.assertIs(touches(BOX, ((3, 5, 2), (5, 3, 2), (5, 5, 2))), False)
        self.assertIs(touches(BOX, ((2, 2, 2), (2, 2, 2), (2, 2, 2))), True)

    def test_through_the_box_with_no_corner_in_it(self):
        self.touched(((-9, 1, -9), (20, 1, -9), (-9, 1, 20)))
        self.touched(((-9, 1, 1), (20, 1, 2), (20, 3, 2)))

    def test_corner_inside(self):
        self.touched(((3, 3, 3), (9, 9, 9), (9, 9, 8)))
        self.touched(((1, 2, 3), (2, 1, 3), (3, 2, 1)))

    def test_side_edge_and_corner_alone(self):
        self.free(((0, 0, 4), (4, 0, 4), (0, 4, 4)))
        self.free(((-9, -9, 4), (20, -9, 4), (-9, 20, 4)))
        self.free(((0, 4, 4), (4, 4, 4), (2, 6, 6)))
        self.free(((4, 4, 4), (5, 4, 4), (4, 5, 9)))
        self.free(((2, 4, 4), (2, 5, 5), (2, 3, 5)))

    def test_plane_through_an_edge_or_a_corner(self):
        # The plane x + z = 8 has one edge, and x + y + z = 12 one corner of the box alone.
        self.free(((8, -9, 0), (8, 20, 0), (-9, 2, 17)))
        self.free(((12, 0, 0), (0, 12, 0), (0, 0, 12)))
        self.touched(((11, 0, 0), (0, 11, 0), (0, 0, 11)))

    def test_past_an_edge(self):
        self.free(((3, 5, 2), (5, 3, 2), (5, 5, 2)))
        self.touched(((2, 5, 2), (5, 2, 2), (5, 5, 2)))

    def test_edges_that_part(self):
        # No side of the box and not the plane of the triangle, but an edge of each parts them.
        self.free(((2, 7, 5), (7, 5, 0), (10, 10, 2)))
        self.free(((5, -3, 0), (3, 1, 6), (1, -1, 8)))
        self.free(((7, 6, 3), (9, 3, 1), (1, 5, 1)))

    def test_segments(self):
        self.touched(((-1, 2, 2), (5, 2, 2), (-1, 2, 2)))
        self.touched(((1, 1, 1), (2, 2, 3), (3, 3, 5)))
        self.touched(((-1, -1, -1), (2, 2, 2), (5, 5, 5)))
        self.free(((4, 0, 2), (4, 4, 2), (4, 0, 2)))
        self.free(((-1, 4, 4), (5, 4, 4), (2, 4, 4)))
        self.free(((3, 5, 2), (5, 3, 2), (4, 4, 2)))
        self.free(((2, 6, 2), (6, 2, 2), (2, 6, 2)))
        self.touched(((2, 5, 2), (5, 2, 2), (2, 5, 2)))
        self.free(((-4, 4, 9), (9, 4, -4), (-4, 4, 9)))

    def test_segment_that_ends_at_the_surface(self):
        self.free(((2, 2, 4), (2, 2, 9), (2, 2, 6)))
        self.touched(((2, 2, 3), (2, 2, 9), (2, 2, 6)))

    def test_points(self):
        for point in product(range(-1, 6), repeat=3):
            inside = all(0 < number < 4 for number in point)
            self.assertIs(touches(BOX, (point, point, point)), inside, point)

    def test_empty_boxes(self):
        wide = ((-99, 2, -99), (99, 2, -99), (0, 3, 99))
        for axis in range(3):
            for high in (0, -1, -9):
                box = list(BOX)
                box[axis + 3] = high
                self.assertIs(touches(tuple(box), wide), False)
                self.assertIs(touches(tuple(box), ((0, 0, 0),) * 3), False)
                self.assertIs(touches(tuple(box), ((0, 2, 2), (2, 0, 2), (2, 2, 0))), False)

    def test_flag_behind_the_box(self):
        for flag in (True, False):
            self.assertIs(touches(BOX + (flag,), ((1, 1, 1), (9, 9, 9), (9, 9, 8))), True)
            self.assertIs(touches(BOX + (flag,), ((4, 1, 1), (9, 9, 9), (9, 9, 8))), False)

    def test_far_away_and_large(self):
        large = ((-FAR, -FAR, -FAR), (FAR, FAR, FAR - 1), (FAR, -FAR, FAR))
        box = (FAR - 9, FAR - 12, FAR - 9, FAR - 1, FAR - 5, FAR - 1)
        low, high = box[:3], box[3:]
        for by in range(-3, 12):
            for triangle in (large, moved(large, (by, 0, 0)), moved(large, (0, 0, by))):
                self.assertIs(touches(box, triangle), is_touched(low, high, triangle), triangle)

    def compare(self, chance, box, triangle):
        wanted = is_touched(box[:3], box[3:], triangle)
        self.assertIs(touches(box, triangle), wanted, (box, triangle))
        return wanted

    def test_against_fractions(self):
        chance = random.Random(11)
        many = [0, 0]
        for _ in range(6000):
            far = chance.choice((2, 4, 7))
            low = [chance.randint(-1, 1) for _ in range(3)]
            box = tuple(low) + tuple(number + chance.randint(1, 4) for number in low)
            corners = [tuple(chance.randint(-far, far + 2) for _ in range(3)) for _ in range(3)]
            many[self.compare(chance, box, tuple(corners))] += 1
        self.assertGreater(min(many), 1500)

    def test_degenerate_against_fractions(self):
        chance = random.Random(12)
        many = [0, 0]
        for _ in range(3000):
            box = (0, 0, 0) + tuple(chance.randint(1, 4) for _ in range(3))
            p, step = ([chance.randint(-1, 4) for _ in range(3)], [chance.randint(-2, 2) for _ in range(3)])
            shares = [chance.randint(-3, 3) for _ in range(3)]
            triangle = tuple(tuple(n + share * d for n, d in zip(p, step)) for share in shares)
            many[self.compare(chance, box, triangle)] += 1
        self.assertGreater(min(many), 300)


class TouchesBox(unittest.TestCase):

    def test_examples(self):
        self.assertIs(touches_box(BOX, (4, 0, 0, 6, 4, 4)), False)
        self.assertIs(touches_box(BOX, (3, 3, 3, 3, 3, 3, False)), True)

    def test_against_points(self):
        # Between whole numbers, halves tell all: the ends are whole numbers.
        halves = [Fraction(n, 2) for n in range(-1, 10)]
        ends = [(low, high) for low in range(5) for high in range(5)]
        for (a, b), (c, d) in product(ends, repeat=2):
            meets = any(a < n < b and c <= n <= d for n in halves)
            for axis in range(3):
                box, other = [0, 0, 0, 4, 4, 4], [1, 1, 1, 3, 3, 3]
                box[axis], box[axis + 3], other[axis], other[axis + 3] = a, b, c, d
                self.assertIs(touches_box(tuple(box), tuple(other)), meets, (box, other))

    def test_sides_edges_and_corners(self):
        for by in product((-4, 0, 4), repeat=3):
            other = tuple(by) + tuple(number + 4 for number in by)
            self.assertIs(touches_box(BOX, other), by == (0, 0, 0), by)

    def test_other_box_counts_with_its_surface(self):
        # A box without inside is a rectangle, a segment or a point.
        self.assertIs(touches_box(BOX, (1, 2, -9, 3, 2, 9, True)), True)
        self.assertIs(touches_box(BOX, (1, 4, -9, 3, 4, 9, True)), False)
        self.assertIs(touches_box((0, 2, 0, 4, 2, 4), (-9, -9, -9, 9, 9, 9)), False)
        self.assertIs(touches_box((0, 0, 0, 4, 4, -4), (-9, -9, -9, 9, 9, 9)), False)

    def test_flags(self):
        for flag in ((), (True,), (False,)):
            for other in ((), (True,), (False,)):
                self.assertIs(touches_box(BOX + flag, (3, 3, 3, 9, 9, 9) + other), True)


class Walker(unittest.TestCase):

    def test_box(self):
        s = made()
        self.assertEqual((s.rise, s.tall), (1, 4))
        self.assertEqual(walker_box(s, 20, 31, 2), (17, 15, 28, 23, 30, 34))
        self.assertEqual(walker_box(s, 0, 0, -9), (-3, -40, -3, 3, -25, 3))

    def test_height_and_step_are_rounded(self):
        s = made(height=21, step=9)
        self.assertEqual(walker_box(s, 20, 31, 2), (17, 15, 28, 23, 35, 34))

    def test_free_and_first_touched(self):
        s = made()
        high, roof, floor = [((-99, y, -99), (300, y, -99), (-99, y, 300)) for y in (30, 29, 15)]
        post, beside = (20, 0, 30, 21, 99, 31, False), (23, 0, 30, 29, 99, 31, True)
        self.assertIsNone(first_touched(s, [high, floor], [beside], 20, 31, 2))
        self.assertIs(is_free(s, [high, floor], [beside], 20, 31, 2), True)
        self.assertEqual(first_touched(s, [high, roof, roof], [post], 20, 31, 2), ("triangle", 1))
        self.assertEqual(first_touched(s, [high, floor], [beside, post, post], 20, 31, 2), ("box", 1))
        self.assertIs(is_free(s, [high, roof], [], 20, 31, 2), False)
        self.assertIs(is_free(s, [], [post], 20, 31, 2), False)
        self.assertIsNone(first_touched(s, [], [], 20, 31, 2))

    def test_place_and_level_count(self):
        s = made()
        post = (20, 15, 30, 21, 20, 31, False)
        for x, z, hi in product(range(12, 29), range(22, 39), range(-3, 5)):
            meets = 17 < x < 24 and 27 < z < 34 and -1 < hi < 3
            self.assertIs(is_free(s, [], [post], x, z, hi), not meets, (x, z, hi))

    def test_walker_without_width(self):
        s = made(width=0)
        wall = ((20, -99, -99), (20, 99, -99), (20, 0, 99))
        self.assertIs(is_free(s, [wall], [(0, 0, 0, 90, 90, 90, True)], 20, 31, 2), True)

    def test_nothing_is_changed(self):
        s = made()
        soup, boxes = [((0, 0, 0), (9, 9, 9), (9, 0, 9))], [(0, 0, 0, 9, 9, 9, True)]
        kept = (list(soup), list(boxes))
        first_touched(s, soup, boxes, 5, 5, 0)
        is_free(s, soup, boxes, 50, 50, 0)
        self.assertEqual((soup, boxes), kept)


if __name__ == "__main__":
    unittest.main()
