"""Points 12.1 to 12.4 and 0.11: papers of ways, and what the checker says of any paper."""

import random
import unittest

from footpath.boxes import is_free
from footpath.papers import check, paper
from footpath.settings import Settings
from footpath.strings import find_way
from tests.reference import some_world
from tests.trails import (Checker, as_number, changed_paper, grid_mesh, some_garden, some_ways, standing_points,
                          stands_free, told_pieces, whole_points)

GROUND = [((-9, 0, -9), (999, 0, -9), (-9, 0, 999))]


def made(**changes):
    good = dict(columns=3, rows=3, cell=4, level=1, width=0, height=5, step=1, slope=(1, 2), tile=4)
    return Settings(**{**good, **changes})


def numbered(found):
    """The pieces of a paper, with numbers instead of positions."""
    return [(i, k, level, as_number(position)) for i, k, level, *position in found[2]]


def times(found, whole):
    """The pieces without levels, each with its end in parts of a whole part of the string."""
    return [(i, k, number * whole) for i, k, _, number in numbered(found)]


class Papers(unittest.TestCase):

    def written(self, s, boxes, start, goal):
        found = grid_mesh(s, GROUND, boxes)
        written = paper(s, found, find_way(found, start, goal))
        self.assertEqual(check(s, GROUND, boxes, written), ("taken",))
        return written

    def test_example(self):
        s = made(columns=4, rows=1, tile=2)
        soup = [((-9, 0, -9), (99, 0, -9), (-9, 0, 99))]
        world = grid_mesh(s, soup, [])
        way = find_way(world, (1, 2, 0), (14, 2, 1))
        self.assertEqual(way, ("way", [0, 1], [0], [(1, 2), (14, 2)], []))
        told = [(0, 0, 1, 0, 3, 13), (1, 0, 1, 0, 7, 13), (2, 0, 1, 0, 11, 13), (3, 0, 1, 1, 0, 1)]
        self.assertEqual(paper(s, world, way), ("paper", [(1, 2), (14, 2)], told))
        self.assertEqual(check(s, soup, [], paper(s, world, way)), ("taken",))
        self.assertEqual(check(s, soup, [], ("paper", [(1, 2)], [(0, 0, 9, 0, 0, 1)])), ("refused", "ground", 0))

    def test_within_one_cell(self):
        written = self.written(made(), [], (1, 1, 0), (3, 2, 0))
        self.assertEqual(written, ("paper", [(1, 1), (3, 2)], [(0, 0, 1, 1, 0, 1)]))

    def test_one_point(self):
        written = self.written(made(), [], (5, 9, 0), (5, 9, 0))
        self.assertEqual(written, ("paper", [(5, 9)], [(1, 2, 1, 0, 0, 1)]))

    def test_corners_first_in_x(self):
        written = self.written(made(), [], (0, 0, 0), (12, 12, 0))
        self.assertEqual(times(written, 3), [(0, 0, 1), (1, 0, 1), (1, 1, 2), (2, 1, 2), (2, 2, 3)])
        written = self.written(made(), [], (12, 12, 0), (0, 0, 0))
        self.assertEqual(times(written, 3), [(2, 2, 1), (1, 2, 1), (1, 1, 2), (0, 1, 2), (0, 0, 3)])
        written = self.written(made(), [], (12, 0, 0), (0, 12, 0))
        self.assertEqual(times(written, 3), [(2, 0, 1), (1, 0, 1), (1, 1, 2), (0, 1, 2), (0, 2, 3)])

    def test_begins_in_a_corner(self):
        written = self.written(made(), [], (4, 4, 0), (0, 0, 0))
        self.assertEqual(times(written, 1), [(1, 1, 0), (0, 1, 0), (0, 0, 1)])
        written = self.written(made(), [], (4, 4, 0), (8, 0, 0))
        self.assertEqual(times(written, 1), [(1, 1, 0), (1, 0, 1)])
        written = self.written(made(), [], (4, 4, 0), (8, 8, 0))
        self.assertEqual(times(written, 1), [(1, 1, 1)])

    def test_along_sides(self):
        written = self.written(made(), [], (4, 1, 0), (4, 11, 0))
        self.assertEqual(times(written, 10), [(1, 0, 3), (1, 1, 7), (1, 2, 10)])
        written = self.written(made(), [], (11, 8, 0), (1, 8, 0))
        self.assertEqual(times(written, 10), [(2, 2, 3), (1, 2, 7), (0, 2, 10)])

    def test_far_border_is_brought_into_range(self):
        written = self.written(made(), [], (12, 12, 0), (12, 1, 0))
        self.assertEqual(times(written, 11), [(2, 2, 4), (2, 1, 8), (2, 0, 11)])

    def test_begins_on_a_gate(self):
        s = made(columns=4, rows=1, tile=2)
        self.assertEqual(times(self.written(s, [], (8, 2, 0), (10, 2, 1)), 1), [(1, 0, 0), (2, 0, 1)])
        self.assertEqual(times(self.written(s, [], (6, 2, 0), (8, 2, 1)), 1), [(1, 0, 1), (2, 0, 1)])
        self.assertEqual(times(self.written(s, [], (8, 2, 1), (6, 2, 0)), 1), [(2, 0, 0), (1, 0, 1)])
        self.assertEqual(times(self.written(s, [], (8, 2, 0), (8, 2, 1)), 1), [(1, 0, 0), (2, 0, 0)])

    def test_through_a_corner_of_cells_in_a_gate(self):
        # The cell that it leaves is the one in which it came, and the next one is that on the other side of it.
        s = made(columns=4, rows=2, tile=2)
        written = self.written(s, [], (4, 0, 0), (12, 8, 1))
        self.assertEqual(times(written, 2), [(1, 0, 1), (2, 0, 1), (2, 1, 2)])
        written = self.written(s, [], (4, 8, 0), (12, 0, 1))
        self.assertEqual(times(written, 2), [(1, 1, 0), (1, 1, 1), (2, 1, 1), (2, 0, 2)][1:])

    def test_bends_at_ends_of_gates(self):
        s = made(columns=2, rows=2, tile=2)
        written = self.written(s, [(5, 0, 1, 6, 9, 2, False)], (0, 0, 0), (8, 8, 1))
        self.assertEqual(written[1], [(0, 0), (4, 5), (8, 8)])
        self.assertEqual(times(written, 5), [(0, 0, 4), (0, 1, 5), (1, 1, 10)])

    def test_string_that_bends_in_a_corner(self):
        # No gate ends in a corner, but a paper may come from anywhere.
        s, points = made(), [(1, 1), (4, 4), (8, 0), (11, 1)]
        for pieces in ([(0, 0, 1, 1, 0, 1), (1, 0, 1, 2, 0, 1), (2, 0, 1, 3, 0, 1)],
                       [(0, 0, 1, 1, 0, 1), (0, 1, 1, 1, 0, 1), (1, 1, 1, 1, 0, 1), (1, 0, 1, 2, 0, 1), (2, 0, 1, 3, 0, 1)]):
            self.assertEqual(check(s, GROUND, [], ("paper", points, pieces)), ("taken",))
        through = [(0, 0, 1, 1, 0, 1), (0, 1, 1, 2, 0, 1)]
        self.assertEqual(check(s, GROUND, [], ("paper", points, through)), ("refused", "outside", 1))

    def test_levels_of_the_plates(self):
        s = made(columns=3, rows=1)
        boxes = [(5, 0, 1, 7, 2, 3, True), (9, 0, 1, 11, 3, 3, True)]
        written = self.written(s, boxes, (1, 2, 0), (11, 2, 0))
        self.assertEqual([piece[:3] for piece in written[2]], [(0, 0, 1), (1, 0, 2), (2, 0, 3)])

    def test_against_the_second_way(self):
        pieces = bends = 0
        for seed in range(150):
            for made_world in (some_world, some_garden):
                s, soup, boxes = made_world(seed)
                found = grid_mesh(s, soup, boxes)
                for way in some_ways(random.Random(seed), s, found, 3):
                    written = paper(s, found, way)
                    self.assertEqual(written[:2], ("paper", way[3]), seed)
                    self.assertEqual(numbered(written), told_pieces(s, found, way), (seed, way))
                    for _, _, _, at, top, den in written[2]:
                        self.assertTrue(0 <= top < den and (top == 0 or at + 1 < len(way[3])), seed)
                    pieces += len(written[2])
                    bends += len(way[4])
        self.assertGreater(pieces, 1500)
        self.assertGreater(bends, 50)

    def test_nothing_is_changed_or_shared(self):
        s = made(columns=4, rows=1, tile=2)
        found = grid_mesh(s, GROUND, [])
        way = find_way(found, (1, 2, 0), (14, 2, 1))
        kept = repr((found, way))
        one, other = paper(s, found, way), paper(s, found, way)
        one[1].clear()
        one[2].clear()
        check(s, GROUND, [], other)
        self.assertEqual(repr((found, way)), kept)
        self.assertEqual((len(other[1]), len(other[2])), (2, 4))


class Faults(unittest.TestCase):

    def setUp(self):
        self.s = made(columns=4, rows=2, step=1, slack=1)
        self.points = [(1, 2), (14, 2)]
        self.pieces = [(0, 0, 1, 0, 3, 13), (1, 0, 1, 0, 7, 13), (2, 0, 1, 0, 11, 13), (3, 0, 1, 1, 0, 1)]

    def said(self, pieces, boxes=(), points=None, **changes):
        s = made(**{**dict(columns=4, rows=2, slack=1), **changes})
        said = check(s, GROUND, list(boxes), ("paper", points or self.points, pieces))
        self.assertEqual(said, Checker(s, GROUND, list(boxes)).result(("paper", points or self.points, pieces)))
        return said

    def with_piece(self, at, *numbers):
        return self.pieces[:at] + [numbers] + self.pieces[at + 1:]

    def test_right(self):
        self.assertEqual(self.said(self.pieces), ("taken",))

    def test_cell(self):
        for i, k in ((-1, 0), (4, 0), (0, -1), (0, 2), (10 ** 9, 0)):
            self.assertEqual(self.said(self.with_piece(0, i, k, 1, 0, 3, 13)), ("refused", "cell", 0))
        self.assertEqual(self.said(self.pieces + [(4, 0, 1, 1, 0, 1)]), ("refused", "cell", 4))

    def test_step_needs_a_common_side(self):
        for i, k in ((0, 0), (1, 1), (2, 0), (2, 1), (3, 0)):
            self.assertEqual(self.said(self.with_piece(1, i, k, 1, 0, 7, 13)), ("refused", "step", 1), (i, k))
        # A step along z is one, too, but the string is not there.
        moved = [(0, 0, 1, 0, 3, 13), (0, 1, 1, 0, 3, 13)]
        self.assertEqual(self.said(moved), ("refused", "outside", 1))

    def test_step_needs_near_levels(self):
        for level in (3, -1, 9):
            self.assertEqual(self.said(self.with_piece(1, 1, 0, level, 0, 7, 13)), ("refused", "step", 1))
        self.assertEqual(self.said(self.with_piece(1, 1, 0, 2, 0, 7, 13)), ("taken",))
        self.assertEqual(self.said(self.with_piece(1, 1, 0, 0, 0, 7, 13)), ("refused", "ground", 1))
        self.assertEqual(self.said(self.with_piece(1, 1, 0, 2, 0, 7, 13), step=0), ("refused", "step", 1))

    def test_first_piece_makes_no_step(self):
        self.assertEqual(self.said(self.pieces[1:], points=[(5, 2), (14, 2)])[1:], ("outside", 0))
        begins = [(1, 0, 1, 0, 3, 9), (2, 0, 1, 0, 7, 9), (3, 0, 1, 1, 0, 1)]
        self.assertEqual(self.said(begins, points=[(5, 2), (14, 2)]), ("taken",))

    def test_position_is_none(self):
        for position in ((-1, 0, 1), (2, 0, 1), (0, -1, 13), (0, 13, 13), (0, 14, 13), (0, 3, 0), (0, 3, -13),
                         (0, 0, 0), (0, 0, -1), (1, 1, 13), (1, -1, 13), (0, -3, -13)):
            self.assertEqual(self.said(self.with_piece(0, 0, 0, 1, *position)), ("refused", "position", 0), position)
        self.assertEqual(self.said(self.pieces[:3] + [(3, 0, 1, 1, 1, 2)]), ("refused", "position", 3))

    def test_position_in_any_terms(self):
        self.assertEqual(self.said(self.with_piece(0, 0, 0, 1, 0, 6, 26)), ("taken",))
        self.assertEqual(self.said(self.with_piece(3, 3, 0, 1, 1, 0, 99)), ("taken",))
        self.assertEqual(self.said([(0, 0, 1, 0, 0, 7)] + self.pieces[1:])[1:], ("outside", 1))

    def test_position_comes_before(self):
        self.assertEqual(self.said(self.with_piece(1, 1, 0, 1, 0, 2, 13)), ("refused", "position", 1))
        self.assertEqual(self.said(self.with_piece(1, 1, 0, 1, 0, 29, 130)), ("refused", "position", 1))
        self.assertEqual(self.said(self.pieces + [(2, 0, 1, 0, 12, 13)]), ("refused", "position", 4))
        self.assertEqual(self.said(self.with_piece(1, 1, 0, 1, 0, 6, 26))[1:], ("outside", 2))

    def test_outside(self):
        for position in ((0, 4, 13), (0, 31, 130), (1, 0, 1)):
            self.assertEqual(self.said(self.with_piece(0, 0, 0, 1, *position)), ("refused", "outside", 0), position)
        self.assertEqual(self.said(self.pieces, points=[(1, 2), (14, 9)])[1:], ("outside", 1))
        self.assertEqual(self.said(self.pieces, points=[(1, -1), (14, -1)])[1:], ("outside", 0))
        # It comes back at its end, but is outside in between.
        self.assertEqual(self.said([(0, 0, 1, 2, 0, 1)], points=[(1, 1), (5, 1), (1, 2)])[1:], ("outside", 0))
        self.assertEqual(self.said([(0, 0, 1, 2, 0, 1)], points=[(1, 1), (4, 4), (1, 2)]), ("taken",))

    def test_outside_at_each_side(self):
        inside = [(5, 5), (7, 7)]
        for point in ((4, 6), (8, 6), (6, 4), (6, 8)):
            self.assertEqual(self.said([(1, 1, 1, 2, 0, 1)], points=inside + [point]), ("taken",), point)
        for point in ((3, 6), (9, 6), (6, 3), (6, 9)):
            self.assertEqual(self.said([(1, 1, 1, 2, 0, 1)], points=inside + [point])[1:], ("outside", 0), point)

    def test_ground(self):
        one = [(0, 0)]
        boxes = [(1, 4, 1, 2, 7, 2, True), (5, 4, 1, 6, 7, 2, False)]
        for slack, right in ((0, (7,)), (1, (7, 8)), (2, (7, 8, 9))):
            for level in range(6, 11):
                said = self.said([(0, 0, level, 0, 0, 1)], boxes, one, slack=slack)
                self.assertEqual(said, ("taken",) if level in right else ("refused", "ground", 0), (slack, level))
        # A box that is not flat is no ground, and neither is one over another cell.
        for level in range(6, 9):
            self.assertEqual(self.said([(1, 0, level, 0, 0, 1)], boxes, [(5, 2)])[1:], ("ground", 0))
            self.assertEqual(self.said([(2, 0, level, 0, 0, 1)], boxes, [(9, 2)])[1:], ("ground", 0))

    def test_single_things_count_for_the_ground(self):
        # In the column they are one solid that ends at 8, but a floor at 3 has its own top.
        boxes = [(1, 0, 1, 2, 3, 2, True), (1, 3, 1, 2, 8, 2, False)]
        self.assertEqual(self.said([(0, 0, 3, 0, 0, 1)], boxes, [(0, 0)]), ("refused", "room", 0))
        self.assertEqual(self.said([(0, 0, 8, 0, 0, 1)], boxes, [(0, 0)]), ("refused", "ground", 0))

    def test_room_over_the_cell(self):
        one, at = [(0, 0, 1, 0, 0, 1)], [(0, 0)]
        for low, high, is_right in ((2, 3, False), (5, 6, False), (6, 7, True), (1, 2, True), (3, 4, False)):
            said = self.said(one, [(1, low, 1, 2, high, 2, False)], at)
            self.assertEqual(said, ("taken",) if is_right else ("refused", "room", 0), (low, high))

    def test_room_for_triangles_in_their_solids(self):
        # The solid ends at the next level, where the walker's body begins or has begun.
        one, at = [(0, 0, 1, 0, 0, 1)], [(0, 0)]
        s = made(columns=4, rows=2, level=2, height=10, step=2)
        for y, is_right in ((3, True), (4, False), (5, False), (11, False), (12, True)):
            soup = GROUND + [((1, y, 1), (2, y, 1), (2, y, 1))]
            said = check(s, soup, [], ("paper", at, one))
            self.assertEqual(said, ("taken",) if is_right else ("refused", "room", 0), y)

    def test_room_within_reach(self):
        one, at = [(2, 2, 1, 0, 0, 1)], [(9, 9)]
        for width, reach in ((0, 0), (1, 1), (4, 1), (5, 2)):
            for i in range(5):
                for k in range(5):
                    post = (4 * i + 1, 0, 4 * k + 1, 4 * i + 2, 9, 4 * k + 2, False)
                    is_right = max(abs(i - 2), abs(k - 2)) > reach
                    said = self.said(one, [post], at, columns=5, rows=5, width=width)
                    self.assertEqual(said, ("taken",) if is_right else ("refused", "room", 0), (width, i, k))

    def test_room_in_the_grid(self):
        for i in range(5):
            for k in range(4):
                said = self.said([(i, k, 1, 0, 0, 1)], [], [(4 * i, 4 * k)], columns=5, rows=4, width=1)
                is_right = i in (1, 2, 3) and k in (1, 2)
                self.assertEqual(said, ("taken",) if is_right else ("refused", "room", 0), (i, k))

    def test_order_of_the_faults_of_a_piece(self):
        post = [(13, 0, 1, 14, 9, 2, False)]
        wrong = [(9, 9, 9, 7, 7, 7), (3, 1, 9, 7, 7, 7), (3, 0, 9, 7, 7, 7), (3, 0, 1, 7, 7, 7), (3, 0, 1, 0, 8, 13)]
        for last, fault in zip(wrong, ("cell", "step", "step", "position", "position")):
            self.assertEqual(self.said(self.pieces[:3] + [last], post), ("refused", fault, 3))
        self.assertEqual(self.said(self.pieces, post), ("refused", "room", 3))
        self.assertEqual(self.said(self.pieces, post, [(1, 2), (14, -1)])[1], "outside")
        self.assertEqual(self.said(self.pieces[:3] + [(3, 0, 0, 1, 0, 1)], post)[1:], ("ground", 3))
        self.assertEqual(self.said([(0, 0, 9, 1, 0, 1)], [])[1:], ("outside", 0))

    def test_first_piece_with_a_fault(self):
        wrong = self.with_piece(1, 1, 0, 2, 0, 8, 13)
        wrong[3] = (9, 9, 9, 9, 9, 9)
        self.assertEqual(self.said(wrong), ("refused", "outside", 1))

    def test_end(self):
        self.assertEqual(self.said([]), ("refused", "end", 0))
        self.assertEqual(self.said([], points=[(1, 2)]), ("refused", "end", 0))
        for many in (1, 2, 3):
            self.assertEqual(self.said(self.pieces[:many]), ("refused", "end", many))
        self.assertEqual(self.said(self.with_piece(3, 3, 0, 1, 0, 12, 13)), ("refused", "end", 4))

    def test_points_that_come_twice(self):
        self.assertEqual(self.said([(0, 0, 1, 0, 1, 2), (1, 0, 1, 1, 0, 1)], points=[(4, 2), (4, 2)]), ("taken",))

    def test_pieces_left_out_or_repeated(self):
        told = ["outside", "step", "step", "end"]
        for at, fault in enumerate(told):
            left = self.pieces[:at] + self.pieces[at + 1:]
            self.assertEqual(self.said(left), ("refused", fault, 0 if at == 0 else at))
            twice = self.pieces[:at] + self.pieces[at:at + 1] + self.pieces[at:]
            self.assertEqual(self.said(twice), ("refused", "step", at + 1))

    def test_other_world(self):
        self.assertEqual(check(self.s, [], [], ("paper", self.points, self.pieces)), ("refused", "ground", 0))
        self.assertEqual(self.said(self.pieces, [(9, 0, 0, 10, 9, 1, True)]), ("refused", "room", 2))

    def test_changed_papers_against_the_second_way(self):
        seen = {}
        for seed in range(120):
            s, soup, boxes = (some_garden if seed % 2 else some_world)(seed)
            chance = random.Random(seed)
            found = grid_mesh(s, soup, boxes)
            checker = Checker(s, soup, boxes)
            for way in some_ways(chance, s, found, 3):
                for _ in range(8):
                    changed = changed_paper(chance, paper(s, found, way))
                    said = check(s, soup, boxes, changed)
                    self.assertEqual(said, checker.result(changed), (seed, changed))
                    seen[said[:2]] = seen.get(said[:2], 0) + 1
        self.assertEqual(len(seen), 8, seen)


class Taken(unittest.TestCase):
    """Points 12.4 and 0.11."""

    def holds(self, s, soup, boxes, written):
        for x, z, level in whole_points(written):
            self.assertTrue(is_free(s, soup, boxes, x, z, level), (written, x, z))
        for x, z, level in standing_points(written):
            self.assertTrue(stands_free(s, soup, boxes, x, z, level), (written, x, z))

    def test_every_found_way(self):
        many = 0
        for seed in range(100):
            s, soup, boxes = (some_garden if seed % 2 else some_world)(seed)
            found = grid_mesh(s, soup, boxes)
            for way in some_ways(random.Random(seed), s, found, 3):
                written = paper(s, found, way)
                self.assertEqual(check(s, soup, boxes, written), ("taken",), (seed, way))
                self.holds(s, soup, boxes, written)
                many += 1
        self.assertGreater(many, 100)

    def test_wide_walkers(self):
        many = 0
        for seed in range(40):
            s, soup, boxes = some_garden(seed, width=1 + seed % 5, columns=8, rows=7)
            found = grid_mesh(s, soup, boxes)
            for way in some_ways(random.Random(seed), s, found, 3):
                written = paper(s, found, way)
                self.assertEqual(check(s, soup, boxes, written), ("taken",), (seed, way))
                self.holds(s, soup, boxes, written)
                many += 1
        self.assertGreater(many, 30)

    def test_any_paper_that_is_taken(self):
        many = 0
        for seed in range(200):
            s, soup, boxes = some_garden(seed, slack=seed % 3)
            chance = random.Random(seed)
            found = grid_mesh(s, soup, boxes)
            for way in some_ways(chance, s, found, 2):
                written = paper(s, found, way)
                for _ in range(4):
                    changed = changed_paper(chance, changed_paper(chance, written))
                    if changed != written and check(s, soup, boxes, changed) == ("taken",):
                        self.holds(s, soup, boxes, changed)
                        many += 1
        self.assertGreater(many, 60)


if __name__ == "__main__":
    unittest.main()
