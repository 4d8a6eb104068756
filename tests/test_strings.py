"""Points 10.1 to 10.6 and 0.9: gates, taut strings, contacts, lengths and found ways."""

from fractions import Fraction
from itertools import product
from math import isqrt
import random
import unittest

from footpath.plates import plate_floors
from footpath.search import plates_of
from footpath.strings import contacts, find_way, gate, gates_of, is_taut, length_bounds, strung, taut
from tests.corridors import (
    bent_strings, corridor, gate_points, has_taut_bends, is_shorter, sides_of, straightened, told_contacts,
)
from tests.reference import some_world, whole_mesh

GATES = [((4, 1), (4, 3)), ((7, 4), (5, 4))]

# Two gates on the line z = 0, through which one goes down into a room and up out of it.
DOWN_3, UP_9 = ((4, 0), (2, 0)), ((8, 0), (10, 0))

# Four plates around a hole, with the portals from each to the next one.
RING = (
    [("plate", 0, 0, 2, 0, ()), ("plate", 2, 1, 2, 2, ()), ("plate", 0, 2, 1, 2, ()), ("plate", 0, 1, 0, 1, ())],
    [("portal", 0, 1, 20, 10, 30, 10), ("portal", 2, 1, 20, 20, 20, 30), ("portal", 3, 2, 0, 20, 10, 20), ("portal", 0, 3, 0, 10, 10, 10)],
)


class Examples(unittest.TestCase):

    def test_examples(self):
        self.assertEqual(taut((1, 2), GATES, (5, 9)), ([(1, 2), (4, 3), (5, 4), (5, 9)], [0, 1]))
        self.assertEqual(taut((1, 0), [((4, 1), (4, 3))], (7, 0)), ([(1, 0), (4, 1), (7, 0)], [0]))
        self.assertIs(is_taut(GATES, [(1, 2), (4, 3), (7, 4), (5, 9)], [0, 1]), False)
        self.assertEqual(contacts(GATES, [(1, 2), (7, 4), (5, 9)], [1]), [(0, 3, 6), (1, 0, 1)])
        self.assertEqual(length_bounds([(0, 0), (1, 1), (4, 5)], 100), (641, 642))


class Gates(unittest.TestCase):

    def test_each_direction(self):
        mesh = ([], [("portal", 3, 7, 20, 10, 20, 40), ("portal", 3, 8, 0, 40, 20, 40)])
        self.assertEqual(gate(mesh, 0, 3), ((20, 11), (20, 39)))
        self.assertEqual(gate(mesh, 0, 7), ((20, 39), (20, 11)))
        self.assertEqual(gate(mesh, 1, 3), ((19, 40), (1, 40)))
        self.assertEqual(gate(mesh, 1, 8), ((1, 40), (19, 40)))

    def test_left_is_left(self):
        # From the plate of the portal's first index one goes right or down; the left end is then on the left.
        for line, goes in (((5, 0, 5, 9), (1, 0)), ((0, 5, 9, 5), (0, 1))):
            mesh = ([], [("portal", 0, 1) + line])
            for plate, sign in ((0, 1), (1, -1)):
                left, right = gate(mesh, 0, plate)
                x, z = right[0] - left[0], right[1] - left[1]
                self.assertGreater(sign * (goes[0] * z - goes[1] * x), 0)

    def test_length_1(self):
        mesh = ([], [("portal", 0, 1, 3, 0, 3, 3), ("portal", 0, 1, -3, 3, 0, 3)])
        self.assertEqual(gate(mesh, 0, 0), ((3, 1), (3, 2)))
        self.assertEqual(gate(mesh, 1, 0), ((-1, 3), (-2, 3)))

    def test_gates_of_a_way(self):
        mesh = ([], [("portal", 0, 1, 4, 0, 4, 4), ("portal", 2, 1, 0, 4, 4, 4), ("portal", 0, 2, 8, 0, 8, 4)])
        plates = [0, 1, 2, 0]
        self.assertEqual(gates_of(mesh, plates, [0, 1, 2]), [((4, 1), (4, 3)), ((1, 4), (3, 4)), ((8, 3), (8, 1))])
        self.assertEqual(gates_of(mesh, [1], []), [])
        self.assertEqual(plates, [0, 1, 2, 0])

    def test_gates_of_one_plate_have_no_common_point(self):
        for seed in range(100):
            mesh, start, _, way = corridor(seed, 8)
            plates = plates_of(mesh, start[2], way)
            sides = sides_of(gates_of(mesh, plates, way))
            for (ax, az, bx, bz), (cx, cz, dx, dz) in zip(sides, sides[1:]):
                self.assertTrue(bx < cx or dx < ax or bz < cz or dz < az, seed)


class Taut(unittest.TestCase):

    def string(self, start, gates, end, points, bends):
        """Also the mirrored string and the way back are looked at."""
        for sign_x, sign_z, swap in product((1, -1), (1, -1), (False, True)):
            def seen(point):
                x, z = sign_x * point[0], sign_z * point[1]
                return (z, x) if swap else (x, z)
            turned = [(seen(left), seen(right)) for left, right in gates]
            if (sign_x != sign_z) != swap:
                turned = [(right, left) for left, right in turned]
            line = [seen(point) for point in points]
            given = list(turned)
            self.assertEqual(taut(seen(start), turned, seen(end)), (line, bends))
            self.assertTrue(is_taut(turned, line, bends))
            self.assertEqual(turned, given)
            back = ([(right, left) for left, right in turned[::-1]], line[::-1], [len(gates) - 1 - n for n in bends[::-1]])
            self.assertEqual(taut(seen(end), back[0], seen(start)), back[1:])
            self.assertTrue(is_taut(*back))

    def straight(self, start, gates, end):
        self.string(start, gates, end, [start, end] if start != end else [start], [])

    def test_no_gates(self):
        self.straight((1, 2), [], (5, 9))
        self.straight((1, 2), [], (1, 2))

    def test_straight_through_gates(self):
        self.straight((0, 0), [((3, -1), (3, 2)), ((6, -2), (6, 1))], (9, 0))
        self.straight((0, 1), [((3, 2), (3, 3)), ((6, 3), (6, 4))], (9, 4))

    def test_one_bend(self):
        self.string((0, 0), [((3, 1), (3, 2))], (6, 0), [(0, 0), (3, 1), (6, 0)], [0])
        self.string((0, 3), [((3, 1), (3, 2))], (6, 3), [(0, 3), (3, 2), (6, 3)], [0])

    def test_touching_an_end_is_no_bend(self):
        self.straight((0, 0), [((3, 1), (3, 2))], (6, 2))
        self.straight((0, 0), [((3, 1), (3, 2)), ((6, 0), (6, 2)), ((9, 3), (9, 5))], (12, 4))
        self.string((0, 0), [((3, 1), (3, 2)), ((6, 2), (6, 3))], (9, 2), [(0, 0), (6, 2), (9, 2)], [1])
        self.string((0, 1), [((3, 1), (3, 2)), ((6, 1), (6, 3)), ((9, 1), (9, 2))], (12, 0), [(0, 1), (9, 1), (12, 0)], [2])

    def test_both_sides(self):
        gates = [((3, 3), (3, 5)), ((6, -1), (6, 1)), ((9, 3), (9, 5))]
        self.string((0, 0), gates, (12, 0), [(0, 0), (3, 3), (6, 1), (9, 3), (12, 0)], [0, 1, 2])

    def test_long_way_around_one_end(self):
        gates = [((3, -9), (3, -2)), ((6, -9), (6, -3)), ((9, -9), (9, -2))]
        self.string((0, 0), gates, (12, 0), [(0, 0), (3, -2), (6, -3), (9, -2), (12, 0)], [0, 1, 2])
        flat = [((3, -9), (3, -2)), ((6, -9), (6, -2)), ((9, -9), (9, -2))]
        self.string((0, 0), flat, (12, 0), [(0, 0), (3, -2), (9, -2), (12, 0)], [0, 2])

    def test_gates_one_behind_the_other_on_one_side(self):
        self.string((3, -4), [DOWN_3, UP_9], (9, -4), [(3, -4), (4, 0), (8, 0), (9, -4)], [0, 1])
        self.string((0, -4), [DOWN_3, UP_9], (9, -4), [(0, -4), (4, 0), (8, 0), (9, -4)], [0, 1])
        self.string((12, -4), [DOWN_3, UP_9], (9, -4), [(12, -4), (4, 0), (8, 0), (9, -4)], [0, 1])

    def test_turning_round_on_the_line(self):
        # Down, along the line to the next gate, up, and all the way back to the first one.
        gates = [DOWN_3, UP_9, DOWN_3]
        self.string((3, -4), gates, (3, 4), [(3, -4), (4, 0), (8, 0), (4, 0), (3, 4)], [0, 1, 2])
        gates = [DOWN_3, UP_9, DOWN_3, UP_9, DOWN_3]
        line = [(0, 0), (8, 0), (4, 0), (8, 0), (4, 0), (3, 4)]
        self.string((0, 0), gates, (3, 4), line, [1, 2, 3, 4])

    def test_along_the_line_of_gates(self):
        self.straight((0, 0), [DOWN_3, UP_9], (12, 0))
        self.straight((3, 0), [DOWN_3, UP_9], (9, 0))
        self.straight((4, 0), [DOWN_3, UP_9], (8, 0))
        self.string((5, 0), [DOWN_3, UP_9], (9, 0), [(5, 0), (4, 0), (9, 0)], [0])
        self.string((5, 0), [DOWN_3, UP_9], (7, 0), [(5, 0), (4, 0), (8, 0), (7, 0)], [0, 1])
        self.string((3, 0), [DOWN_3, UP_9, DOWN_3], (3, 0), [(3, 0), (8, 0), (3, 0)], [1])

    def test_start_and_goal_on_gates(self):
        for x in (2, 3, 4):
            self.straight((x, 0), [DOWN_3], (x, 5))
            self.straight((x, 0), [DOWN_3], (9, 5))
            self.straight((x, 0), [DOWN_3], (9, 0))
            self.straight((x, 0), [DOWN_3], (x, 0))
            self.string((x, 0), [DOWN_3, UP_9], (9, -4), [(x, 0), (8, 0), (9, -4)], [1])
        self.straight((2, 0), [DOWN_3], (4, 0))

    def test_start_or_goal_in_a_corner(self):
        self.string((0, 0), [((3, 1), (3, 2))], (3, 0), [(0, 0), (3, 1), (3, 0)], [0])
        self.string((3, 0), [((3, 1), (3, 2))], (6, 0), [(3, 0), (3, 1), (6, 0)], [0])
        self.straight((3, 3), [((3, 1), (3, 2))], (3, 0))

    def test_around_and_over_itself(self):
        once = [(21, 10), (20, 21), (9, 20), (9, 10)]
        for rounds in (1, 2, 3):
            way = [0, 1, 2, 3] * rounds
            gates = gates_of(RING, plates_of(RING, 0, way), way)
            self.string((15, 5), gates, (15, 5), [(15, 5)] + once * rounds + [(15, 5)], list(range(4 * rounds)))
            gates = gates_of(RING, plates_of(RING, 1, way[1:]), way[1:])
            line = [(25, 12)] + (once * rounds)[1:] + [(15, 0)]
            self.string((25, 12), gates, (15, 0), line, list(range(4 * rounds - 1)))

    def test_against_all_bends(self):
        counts = {}
        for seed in range(600):
            mesh, start, goal, way = corridor(seed, seed % 6)
            gates = gates_of(mesh, plates_of(mesh, start[2], way), way)
            found = taut(start[:2], gates, goal[:2])
            told = [
                (points, bends)
                for points, bends in bent_strings(start[:2], gates, goal[:2])
                if told_contacts(gates, points, bends) is not None and has_taut_bends(gates, points, bends)
            ]
            self.assertEqual(told, [found], seed)
            counts[len(found[1])] = counts.get(len(found[1]), 0) + 1
        self.assertGreater(min(counts.values()), 5)
        self.assertEqual(len(counts), 6)

    def test_against_all_points_with_integers(self):
        turns = lines = 0
        for seed in range(600):
            mesh, start, goal, way = corridor(seed + 1000, seed % 5)
            gates = gates_of(mesh, plates_of(mesh, start[2], way), way)
            points, _ = taut(start[:2], gates, goal[:2])
            for a, b, c in zip(points, points[1:], points[2:]):
                turns += (b[0] - a[0]) * (c[1] - b[1]) == (b[1] - a[1]) * (c[0] - b[0])
            for between in product(*[gate_points(ends) for ends in gates]):
                line = straightened([start[:2], *between, goal[:2]])
                lines += 1
                self.assertTrue(line == points or is_shorter(points, line), (seed, line))
        self.assertGreater(turns, 10)
        self.assertGreater(lines, 5000)

    def test_long_corridors(self):
        for seed in range(12):
            mesh, start, goal, way = corridor(seed, 120)
            gates = gates_of(mesh, plates_of(mesh, start[2], way), way)
            points, bends = taut(start[:2], gates, goal[:2])
            self.assertTrue(has_taut_bends(gates, points, bends), seed)
            self.assertIsNotNone(told_contacts(gates, points, bends), seed)


class Contacts(unittest.TestCase):

    def at(self, wanted, gates, points, bends):
        """The contacts, with fractions in lowest terms."""
        given = (list(gates), list(points), list(bends))
        found = contacts(gates, points, bends)
        if found is not None:
            self.assertTrue(all(type(one) is tuple and one[2] >= 1 for one in found))
            self.assertTrue(all(one[1] == 0 or 0 < one[1] < one[2] for one in found))
            found = [(at, Fraction(top, den)) for at, top, den in found]
        self.assertEqual(found, wanted)
        self.assertEqual((gates, points, bends), given)

    def test_straight(self):
        self.at([], [], [(1, 2)], [])
        self.at([], [], [(1, 2), (3, 4)], [])
        self.at([(0, Fraction(1, 3)), (0, Fraction(2, 3))], [((3, -1), (3, 2)), ((6, -2), (6, 1))], [(0, 0), (9, 0)], [])
        self.at([(0, Fraction(3, 4))], [((3, 3), (3, 1))], [(6, 1), (2, 1)], [])

    def test_ends_of_gates_count(self):
        self.at([(0, Fraction(1, 2))], [((3, 1), (3, 2))], [(0, 0), (6, 2)], [])
        self.at([(0, Fraction(1, 2))], [((3, 1), (3, 2))], [(0, 1), (6, 3)], [])
        self.at(None, [((3, 1), (3, 2))], [(0, 0), (6, 1)], [])
        self.at(None, [((3, 1), (3, 2))], [(0, 0), (600, 199)], [])
        self.at([(0, Fraction(1, 200))], [((3, 1), (3, 2))], [(0, 0), (600, 200)], [])
        self.at([(0, Fraction(1, 200))], [((3, 1), (3, 2))], [(0, 0), (600, 400)], [])
        self.at(None, [((3, 1), (3, 2))], [(0, 0), (600, 401)], [])

    def test_at_points_of_the_string(self):
        self.at([(0, 0)], [((3, 1), (3, 2))], [(3, 1), (6, 0)], [])
        self.at([(1, 0)], [((3, 1), (3, 2))], [(0, 0), (3, 2)], [])
        self.at([(1, 0)], [((3, 1), (3, 2))], [(0, 0), (3, 1), (6, 0)], [0])
        self.at([(0, 0)], [((3, 1), (3, 2))], [(3, 1)], [])
        self.at(None, [((3, 1), (3, 2))], [(3, 0)], [])
        self.at(None, [((3, 1), (3, 2)), ((6, 1), (6, 2))], [(3, 1)], [])

    def test_string_ends_before_the_gate(self):
        self.at(None, [((3, 1), (3, 2))], [(0, 1), (2, 1)], [])
        self.at(None, [((3, 1), (3, 2))], [(4, 1), (9, 1)], [])
        self.at([(1, 0)], [((3, 1), (3, 2))], [(0, 1), (3, 1)], [])

    def test_order_of_gates(self):
        near, far = ((3, -1), (3, 1)), ((6, -1), (6, 1))
        self.at([(0, Fraction(1, 3)), (0, Fraction(2, 3))], [near, far], [(0, 0), (9, 0)], [])
        self.at(None, [far, near], [(0, 0), (9, 0)], [])
        self.at([(0, Fraction(1, 3)), (0, Fraction(2, 3))], [far, near], [(9, 0), (0, 0)], [])

    def test_along_gates(self):
        self.at([(0, Fraction(1, 6)), (0, Fraction(2, 3))], [DOWN_3, UP_9], [(0, 0), (12, 0)], [])
        self.at([(0, 0), (0, Fraction(5, 9))], [DOWN_3, UP_9], [(3, 0), (12, 0)], [])
        self.at([(0, 0), (1, 0)], [DOWN_3, UP_9], [(4, 0), (8, 0)], [])
        self.at(None, [UP_9, DOWN_3], [(0, 0), (12, 0)], [])
        self.at([(0, Fraction(1, 6)), (0, Fraction(2, 3))], [UP_9, DOWN_3], [(12, 0), (0, 0)], [])
        self.at(None, [DOWN_3], [(0, 1), (12, 1)], [])
        self.at(None, [DOWN_3], [(0, 0), (1, 0)], [])
        self.at(None, [DOWN_3], [(12, 0), (5, 0)], [])
        self.at([(0, 0)], [DOWN_3], [(3, 0), (2, 0)], [])
        self.at([(1, 0)], [DOWN_3], [(5, 0), (4, 0)], [])
        self.at([(1, 0)], [DOWN_3], [(0, 0), (2, 0)], [])

    def test_not_before_the_contact_before(self):
        # The second gate begins ahead of the first one, but it is gone through behind it.
        first, second = ((6, -1), (6, 1)), ((9, 0), (2, 0))
        self.at([(0, Fraction(1, 2)), (0, Fraction(1, 2))], [first, second], [(0, 0), (12, 0)], [])
        self.at(None, [((10, -1), (10, 1)), second], [(0, 0), (12, 0)], [])
        self.at([(0, Fraction(3, 4)), (0, Fraction(3, 4))], [((9, -1), (9, 1)), second], [(0, 0), (12, 0)], [])

    def test_between_bends(self):
        gates = [((3, 1), (3, 2)), ((6, 0), (6, 9)), ((9, 3), (9, 4)), ((12, 0), (12, 9))]
        self.at([(1, 0), (1, Fraction(1, 2)), (2, 0), (2, Fraction(3, 4))], gates, [(0, 0), (3, 2), (9, 3), (13, 3)], [0, 2])
        self.at([(0, Fraction(1, 3)), (0, Fraction(2, 3)), (1, 0), (1, Fraction(3, 4))], gates, [(0, 0), (9, 3), (13, 3)], [2])
        self.at(None, gates, [(0, 0), (9, 4), (13, 3)], [0])

    def test_gate_that_comes_only_behind_the_next_bend(self):
        gates = [((9, -5), (9, 5)), ((3, 1), (3, 2))]
        self.at(None, gates, [(0, 0), (3, 1), (12, 0)], [1])
        self.at([(1, 0), (1, Fraction(2, 3))], gates[::-1], [(0, 0), (3, 1), (12, 0)], [0])

    def test_bend_that_is_no_end_of_its_gate(self):
        gates = [((3, 1), (3, 4)), ((6, 1), (6, 4))]
        self.at(None, gates, [(0, 0), (3, 2), (9, 2)], [0])
        self.at(None, gates, [(0, 0), (3, 1), (9, 2)], [1])
        self.at(None, gates, [(0, 0), (4, 1), (9, 2)], [0])
        self.at([(1, 0), (1, Fraction(1, 2))], gates, [(0, 0), (3, 1), (9, 2)], [0])

    def test_numbers_of_bends(self):
        gates = [((3, 1), (3, 4)), ((6, 1), (6, 4))]
        points = [(0, 0), (3, 1), (6, 4), (9, 9)]
        self.at([(1, 0), (2, 0)], gates, points, [0, 1])
        for bends in ([], [0], [1], [1, 0], [0, 0], [1, 1], [0, 1, 1], [0, 2], [-2, -1], [-2, 1], [0, 10 ** 30]):
            self.at(None, gates, points, bends)
        self.at(None, gates, [(0, 2), (9, 2)], [0])
        self.at(None, gates[:1], [(3, 1)], [0])
        self.at(None, [], [(0, 0), (3, 1), (9, 9)], [0])
        self.at(None, [((3, 1), (3, 4))] * 2, [(0, 0), (3, 1), (3, 4), (9, 9)], [1, 0])

    def test_each_bend_ascends(self):
        gates = [((3, 1), (3, 4))] * 3
        self.at(None, gates, [(0, 0), (3, 1), (3, 4), (3, 1), (9, 9)], [0, 1, 1])

    def test_against_the_second_way(self):
        gone_through = 0
        for seed in range(300):
            mesh, start, goal, way = corridor(seed + 5000, seed % 6)
            gates = gates_of(mesh, plates_of(mesh, start[2], way), way)
            right = taut(start[:2], gates, goal[:2])
            for points, bends in bent_strings(start[:2], gates, goal[:2]):
                wanted = told_contacts(gates, points, bends)
                found = contacts(gates, points, bends)
                self.assertEqual(found is None, wanted is None, (seed, points, bends))
                if found is not None:
                    self.assertEqual([at + Fraction(top, den) for at, top, den in found], wanted, (seed, points))
                    gone_through += 1
                self.assertIs(is_taut(gates, points, bends), (points, bends) == right, (seed, points, bends))
        self.assertGreater(gone_through, 1000)

    def test_strings_with_any_points(self):
        chance = random.Random(7)
        for _ in range(3000):
            gates = []
            for _ in range(chance.randint(0, 3)):
                x, z, long = chance.randint(0, 5), chance.randint(0, 5), chance.choice((-2, -1, 1, 2))
                gates.append(((x, z), chance.choice(((x + long, z), (x, z + long)))))
            ends = [point for ends in gates for point in ends]
            points = [(chance.randint(0, 5), chance.randint(0, 5))]
            for _ in range(chance.randint(0, 3)):
                point = chance.choice(ends) if ends and chance.random() < 0.7 else (chance.randint(0, 5), chance.randint(0, 5))
                points += [point] if point != points[-1] else []
            bends = sorted(chance.sample(range(-1, 4), min(5, max(0, len(points) - 2))))
            wanted = told_contacts(gates, points, bends)
            found = contacts(gates, points, bends)
            told = None if found is None else [at + Fraction(top, den) for at, top, den in found]
            self.assertEqual(told, wanted, (gates, points, bends))


class IsTaut(unittest.TestCase):

    def test_changed_strings(self):
        gates = [((3, 3), (3, 5)), ((6, -1), (6, 1)), ((9, 3), (9, 5))]
        points = [(0, 0), (3, 3), (6, 1), (9, 3), (12, 0)]
        self.assertIs(is_taut(gates, points, [0, 1, 2]), True)
        for at in (1, 2, 3):
            bends = [bend for bend in (0, 1, 2) if bend != at - 1]
            self.assertIs(is_taut(gates, points[:at] + points[at + 1:], bends), False)
            left, right = gates[at - 1]
            other = right if points[at] == left else left
            self.assertIs(is_taut(gates, points[:at] + [other] + points[at + 1:], [0, 1, 2]), False)
        self.assertIs(is_taut(gates, points, [0, 1]), False)

    def test_bend_put_in(self):
        gates = [((3, 1), (3, 3)), ((6, 1), (6, 3))]
        self.assertIs(is_taut(gates, [(0, 2), (9, 2)], []), True)
        for at, ends in enumerate(gates):
            for end in ends:
                self.assertIs(is_taut(gates, [(0, 2), end, (9, 2)], [at]), False)

    def test_straight_on_at_a_bend(self):
        gates = [((3, 1), (3, 2))]
        self.assertIs(is_taut(gates, [(0, 0), (6, 2)], []), True)
        self.assertIs(is_taut(gates, [(0, 0), (3, 1), (6, 2)], [0]), False)
        self.assertIs(is_taut([DOWN_3], [(0, 0), (2, 0), (9, 0)], [0]), False)

    def test_turning_round(self):
        self.assertIs(is_taut([UP_9, DOWN_3], [(0, 0), (8, 0), (3, 0)], [0]), True)
        self.assertIs(is_taut([UP_9, DOWN_3], [(0, 0), (10, 0), (3, 0)], [0]), False)

    def test_bends_inside(self):
        self.assertIs(is_taut([((3, 1), (3, 2))], [(0, 0), (3, 2), (6, 0)], [0]), False)
        self.assertIs(is_taut([((3, 1), (3, 2))], [(0, 0), (3, 1), (6, 0)], [0]), True)
        self.assertIs(is_taut([((3, 1), (3, 2))], [(0, 5), (3, 1), (6, 0)], [0]), False)

    def test_no_more_than_the_words_ask_for(self):
        # The parts along the gate are the same: the string comes and goes on one side of the gate.
        self.assertIs(is_taut([((3, 1), (3, 2))], [(0, 0), (3, 1), (0, 2)], [0]), True)
        self.assertIs(is_taut([((3, 1), (3, 2))], [(0, 1), (3, 1), (0, 1)], [0]), True)
        self.assertIs(is_taut([((3, 1), (3, 2))], [(0, 0), (3, 1), (0, 3)], [0]), False)

    def test_no_string_through_the_gates(self):
        self.assertIs(is_taut([((3, 1), (3, 2))], [(0, 0), (6, 0)], []), False)
        self.assertIs(is_taut([((3, 1), (3, 2))], [(0, 0)], []), False)
        self.assertIs(is_taut([], [(0, 0)], []), True)


class Lengths(unittest.TestCase):

    def test_told(self):
        self.assertEqual(length_bounds([(3, 4)], 10), (0, 0))
        self.assertEqual(length_bounds([(0, 0), (3, 4)], 1), (5, 5))
        self.assertEqual(length_bounds([(0, 0), (3, -4), (3, 0)], 7), (63, 63))
        self.assertEqual(length_bounds([(0, 0), (1, 1)], 1), (1, 2))
        self.assertEqual(length_bounds([(0, 0), (1, 1), (0, 0), (1, 1)], 1), (3, 6))

    def test_against_squares(self):
        for x, z, scale in product(range(-6, 7), range(-6, 7), (1, 3, 10)):
            if (x, z) != (0, 0):
                low, high = length_bounds([(5, 5), (5 + x, 5 + z)], scale)
                square = (x * x + z * z) * scale * scale
                self.assertTrue(low * low <= square < (low + 1) ** 2)
                self.assertTrue((high - 1) ** 2 < square <= high * high)

    def test_large_scales(self):
        scale = 10 ** 40
        low, high = length_bounds([(0, 0), (10 ** 6, 1), (0, 0)], scale)
        root = isqrt((10 ** 12 + 1) * scale * scale)
        self.assertEqual((low, high), (2 * root, 2 * root + 2))


class FoundWays(unittest.TestCase):

    def test_find_way(self):
        plates = [("plate", 0, 0, 0, 0, (1,)), ("plate", 1, 0, 1, 0, (1,)), ("plate", 1, 1, 1, 1, (1,)), ("plate", 5, 5, 5, 5, (1,))]
        mesh = (plates, [("portal", 0, 1, 4, 0, 4, 4), ("portal", 1, 2, 4, 4, 8, 4)])
        self.assertEqual(find_way(mesh, (1, 2, 0), (5, 8, 2)), ("way", [0, 1, 2], [0, 1], [(1, 2), (4, 3), (5, 4), (5, 8)], [0, 1]))
        self.assertEqual(find_way(mesh, (5, 8, 2), (1, 2, 0)), ("way", [2, 1, 0], [1, 0], [(5, 8), (5, 4), (4, 3), (1, 2)], [0, 1]))
        self.assertEqual(find_way(mesh, (1, 2, 0), (3, 3, 0)), ("way", [0], [], [(1, 2), (3, 3)], []))
        self.assertEqual(find_way(mesh, (1, 2, 0), (1, 2, 0)), ("way", [0], [], [(1, 2)], []))
        self.assertIsNone(find_way(mesh, (1, 2, 0), (20, 20, 3)))

    def test_several_portals(self):
        plates = [("plate", 0, 0, 0, 2, (1, 1, 1)), ("plate", 1, 0, 1, 2, (1, 1, 1))]
        mesh = (plates, [("portal", 0, 1, 3, 0, 3, 3), ("portal", 0, 1, 3, 6, 3, 9)])
        self.assertEqual(find_way(mesh, (0, 8, 0), (6, 8, 1)), ("way", [0, 1], [0], [(0, 8), (3, 2), (6, 8)], [0]))
        self.assertEqual(strung(mesh, (0, 8, 0), (6, 8, 1), [1]), ("way", [0, 1], [1], [(0, 8), (6, 8)], []))
        wanted = ("way", [0, 1, 0], [0, 1], [(1, 0), (3, 2), (3, 7), (1, 9)], [0, 1])
        self.assertEqual(strung(mesh, (1, 0, 0), (1, 9, 0), [0, 1]), wanted)

    def test_nothing_is_changed_or_shared(self):
        plates = [("plate", 0, 0, 0, 0, (1,)), ("plate", 1, 0, 1, 0, (1,))]
        mesh = (plates, [("portal", 0, 1, 4, 0, 4, 4)])
        given, way = (list(mesh[0]), list(mesh[1])), [0]
        for _ in range(2):
            for found in (strung(mesh, (1, 0, 0), (7, 0, 1), way), find_way(mesh, (1, 0, 0), (7, 0, 1))):
                self.assertEqual(found, ("way", [0, 1], [0], [(1, 0), (4, 1), (7, 0)], [0]))
                for one in found[1:]:
                    one.clear()
        self.assertEqual((mesh, way), (given, [0]))
        gates, points, bends = [((4, 1), (4, 3))], [(1, 0), (4, 1), (7, 0)], [0]
        contacts(gates, points, bends).clear()
        for one in taut(points[0], gates, points[-1]):
            one.clear()
        self.assertEqual((gates, points, bends), ([((4, 1), (4, 3))], [(1, 0), (4, 1), (7, 0)], [0]))

    def test_ways_of_worlds(self):
        """Point 0.9: there is a way just where floors are connected, and its string lies in its plates."""
        ways = bent = 0
        for seed in range(120):
            s, soup, boxes = some_world(seed, width=0, tile=2 + seed % 2, step=2, level=1, height=5)
            mesh, floors, joined = whole_mesh(s, soup, boxes)
            plates, portals = mesh
            chance = random.Random(seed)
            for _ in range(6 if plates else 0):
                start, goal = (self.some_place(chance, s, plates) for _ in range(2))
                way = find_way(mesh, start, goal)
                self.assertEqual(way is not None, self.connected(plates, joined, start[2], goal[2]), seed)
                if way is not None:
                    self.lies_in_plates(s, mesh, start, goal, way)
                    ways += len(way[1]) > 1
                    bent += len(way[4]) > 0
        self.assertGreater(ways, 100)
        self.assertGreater(bent, 20)

    def some_place(self, chance, s, plates):
        at = chance.randrange(len(plates))
        _, i0, k0, i1, k1, _ = plates[at]
        return (chance.randint(i0 * s.cell, (i1 + 1) * s.cell), chance.randint(k0 * s.cell, (k1 + 1) * s.cell), at)

    def connected(self, plates, joined, start, goal):
        """Whether a floor of a plate is connected with one of another plate by joined floors."""
        found = set(plate_floors(plates[start]))
        more = found
        while more:
            more = {f for pair in joined if found & set(pair) for f in pair} - found
            found |= more
        return plate_floors(plates[goal])[0] in found

    def lies_in_plates(self, s, mesh, start, goal, way):
        _, through, portals, points, bends = way
        self.assertEqual((through[0], through[-1]), (start[2], goal[2]))
        self.assertEqual((points[0], points[-1]), (start[:2], goal[:2]))
        self.assertEqual(plates_of(mesh, start[2], portals), through)
        gates = gates_of(mesh, through, portals)
        positions = [Fraction(0)] + told_contacts(gates, points, bends) + [Fraction(len(points) - 1)]
        for plate, begin, end in zip(through, positions, positions[1:]):
            _, i0, k0, i1, k1, _ = mesh[0][plate]
            for position in (begin, end):
                at = min(int(position), max(len(points) - 2, 0))
                p, q = points[at], points[min(at + 1, len(points) - 1)]
                x, z = (a + (b - a) * (position - at) for a, b in zip(p, q))
                self.assertTrue(i0 * s.cell <= x <= (i1 + 1) * s.cell and k0 * s.cell <= z <= (k1 + 1) * s.cell)
            # A bend within a plate would be none at a gate.
            self.assertFalse(any(begin < number < end for number in range(1, len(points) - 1)))


if __name__ == "__main__":
    unittest.main()
