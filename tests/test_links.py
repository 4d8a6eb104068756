"""Points 16.1 to 16.5: jumps, flights and links."""

from fractions import Fraction
from itertools import product
import random
import unittest

from footpath.boxes import is_free
from footpath.errors import SettingsError
from footpath.floors import floors_of
from footpath.links import all_links, check_jumps, is_flight, links_from, tile_links
from footpath.settings import Settings
from footpath.solids import columns_of
from tests.islands import Jumper, is_swept_free, some_islands
from tests.trails import grid_columns, stands_free


def made(**changes):
    good = dict(columns=6, rows=1, cell=10, level=1, width=0, height=6, step=1, slope=(1, 2))
    return Settings(**{**good, **changes})


def pad(i, high, k=0, flat=True, low=0):
    return (10 * i + 1, low, 10 * k + 1, 10 * i + 9, high, 10 * k + 9, flat)


def links(s, boxes, far, climb, drop):
    return all_links(s, grid_columns(s, [], boxes), ("jumps", far, climb, drop))


class Jumps(unittest.TestCase):

    def fails(self, name, *numbers):
        with self.assertRaises(SettingsError) as caught:
            check_jumps(("jumps",) + numbers)
        self.assertEqual(caught.exception.name, name)

    def test_ends_of_the_ranges(self):
        for numbers in product((1, 16), (0, 1000), (0, 1000)):
            self.assertIsNone(check_jumps(("jumps",) + numbers))

    def test_one_beyond(self):
        for far in (0, 17, -1, 10 ** 9):
            self.fails("far", far, 0, 0)
        for climb in (-1, 1001):
            self.fails("climb", 1, climb, 0)
            self.fails("drop", 1, 0, climb)

    def test_first_one(self):
        self.fails("far", 0, -1, -1)
        self.fails("climb", 1, -1, -1)
        self.fails("far", 17, 0, 1001)


class Flights(unittest.TestCase):

    def flies(self, s, boxes, place, other):
        columns = grid_columns(s, [], boxes)
        there, back = is_flight(s, columns, place, other), is_flight(s, columns, other, place)
        self.assertIs(there, back)
        return there

    def test_example(self):
        s = made(columns=5)
        boxes = [(1, 0, 0, 9, 4, 9, True), (31, 0, 0, 49, 2, 9, True)]
        columns = columns_of(s, [], boxes, 0, 0, 4, 0)
        self.assertEqual(all_links(s, columns, ("jumps", 3, 0, 2)), [("link", (0, 0, 4), (3, 0, 2))])
        self.assertEqual(all_links(s, columns, ("jumps", 2, 9, 9)), [])
        self.assertIs(is_flight(s, columns, (3, 0, 2), (0, 0, 4)), True)

    def test_level_flight(self):
        # The body goes from rise 1 to tall 6 above the level 4: from 5 to 10.
        for low, high, is_right in ((-9, 5, True), (-9, 6, False), (6, 7, False), (9, 12, False), (10, 12, True)):
            boxes = [pad(0, 4), pad(2, 4), pad(1, high, low=low, flat=False)]
            self.assertIs(self.flies(made(), boxes, (0, 0, 4), (2, 0, 4)), is_right, (low, high))

    def test_over_the_first_cell(self):
        # From the level 2 to 5 it is lifted there, and needs room up to 5 + 6.
        for low, is_right in ((8, False), (10, False), (11, True)):
            boxes = [pad(0, 2), pad(2, 5), pad(0, 20, low=low)]
            self.assertIs(self.flies(made(), boxes, (0, 0, 2), (2, 0, 5)), is_right, low)
        for low, is_right in ((8, False), (10, False), (11, True)):
            boxes = [pad(0, 2), pad(0, 20, k=2, low=low), pad(0, 5, k=2)]
            self.assertIs(self.flies(made(rows=3), boxes, (0, 0, 2), (0, 2, 5)), is_right, low)

    def test_room_at_the_lower_floor(self):
        # A solid over the lower cell from 3 to 5 is in the way of the body from 2 + 1 up, not of one from 4 + 1.
        boxes = [pad(0, 4), pad(2, 2), pad(2, 5, low=4, flat=False)]
        self.assertIs(self.flies(made(), boxes, (0, 0, 4), (2, 0, 2)), False)
        self.assertIs(self.flies(made(), boxes, (0, 0, 4), (2, 0, 4)), True)
        boxes = [pad(0, 4), pad(2, 3), pad(2, 4, low=3, flat=False)]
        self.assertIs(self.flies(made(), boxes, (0, 0, 4), (2, 0, 3)), True)

    def test_between_cells_need_no_room_below(self):
        boxes = [pad(0, 2), pad(3, 6), pad(1, 7, flat=False), pad(2, 7, flat=False)]
        self.assertIs(self.flies(made(), boxes, (0, 0, 2), (3, 0, 6)), True)
        self.assertIs(self.flies(made(), boxes[:3] + [pad(2, 8, flat=False)], (0, 0, 2), (3, 0, 6)), False)

    def test_cells_beyond_do_not_matter(self):
        boxes = [pad(1, 4), pad(3, 4), pad(0, 99), pad(4, 99)]
        self.assertIs(self.flies(made(), boxes, (1, 0, 4), (3, 0, 4)), True)
        self.assertIs(self.flies(made(), boxes, (0, 0, 4), (3, 0, 4)), False)
        self.assertIs(self.flies(made(), boxes, (1, 0, 4), (4, 0, 4)), False)

    def test_cells_within_reach(self):
        s = made(columns=9, rows=7, width=11)
        self.assertEqual(s.reach, 2)
        for i, k in product(range(9), range(7)):
            blocked = not (0 <= i <= 8 and 1 <= k <= 5)
            for place, other in (((2, 3, 4), (6, 3, 4)), ((6, 3, 4), (2, 3, 4))):
                columns = grid_columns(s, [], [pad(i, 99, k=k)])
                self.assertIs(is_flight(s, columns, place, other), blocked, (i, k))
        for i, k in product(range(9), range(7)):
            # Where it is low, only the cells within reach of the second one are asked below.
            near = abs(i - 6) <= 2 and abs(k - 3) <= 2
            columns = grid_columns(s, [], [pad(i, 5, k=k)])
            self.assertIs(is_flight(s, columns, (2, 3, 4), (6, 3, 3)), not near, (i, k))
            self.assertIs(is_flight(s, columns, (6, 3, 3), (2, 3, 4)), not near, (i, k))

    def test_beside_the_border(self):
        s = made(columns=7, rows=5, width=10)
        columns = grid_columns(s, [], [])
        for i, k in product(range(7), range(5)):
            inside = 1 <= k <= 3 and 1 <= i and i + 2 <= 5
            if i + 2 < 7:
                self.assertIs(is_flight(s, columns, (i, k, 4), (i + 2, k, 4)), inside, (i, k))
            inside = 1 <= i <= 5 and 1 <= k <= 2
            if k + 1 < 5:
                self.assertIs(is_flight(s, columns, (i, k + 1, 4), (i, k, 2)), inside, (i, k))

    def test_against_the_second_way(self):
        seen = [0, 0]
        for seed in range(120):
            s, soup, boxes, jumps = some_islands(seed)
            chance = random.Random(seed)
            told, columns = Jumper(s, soup, boxes, jumps), grid_columns(s, soup, boxes)
            for _ in range(12):
                i, k = chance.randrange(s.columns), chance.randrange(s.rows)
                j, m = (chance.randrange(s.columns), k) if chance.random() < 0.6 else (i, chance.randrange(s.rows))
                place, other = (i, k, chance.randint(-1, 6)), (j, m, chance.randint(-1, 6))
                if (i, k) != (j, m):
                    wanted = told.is_flight(place, other)
                    self.assertIs(is_flight(s, columns, place, other), wanted, (seed, place, other))
                    self.assertIs(is_flight(s, columns, other, place), wanted, (seed, place, other))
                    seen[wanted] += 1
        self.assertGreater(min(seen), 200)


class Links(unittest.TestCase):

    def test_distance(self):
        boxes = [pad(0, 4), pad(4, 4)]
        self.assertEqual(links(made(), boxes, 3, 9, 9), [])
        both = [("link", (0, 0, 4), (4, 0, 4)), ("link", (4, 0, 4), (0, 0, 4))]
        self.assertEqual(links(made(), boxes, 4, 9, 9), both)
        self.assertEqual(links(made(), boxes, 16, 0, 0), both)
        # Not one cell away: there are no such floors.
        self.assertEqual(links(made(), [pad(0, 4)], 16, 9, 9), [])

    def test_neighbours(self):
        down, up = ("link", (0, 0, 4), (1, 0, 2)), ("link", (1, 0, 2), (0, 0, 4))
        boxes = [pad(0, 4), pad(1, 2)]
        self.assertEqual(links(made(columns=2), boxes, 1, 2, 2), [down, up])
        self.assertEqual(links(made(columns=2), boxes, 1, 1, 2), [down])
        self.assertEqual(links(made(columns=2), boxes, 1, 2, 1), [up])
        self.assertEqual(links(made(columns=2), boxes, 1, 1, 1), [])

    def test_a_cell_without_a_floor_between(self):
        boxes = [pad(0, 4), pad(2, 5), pad(1, 4, flat=False)]
        up, down = ("link", (0, 0, 4), (2, 0, 5)), ("link", (2, 0, 5), (0, 0, 4))
        self.assertEqual(links(made(columns=3), boxes, 2, 1, 1), [up, down])
        self.assertEqual(links(made(columns=3), boxes, 2, 0, 1), [down])
        self.assertEqual(links(made(columns=3), boxes, 2, 1, 0), [up])

    def test_only_from_edge_to_edge(self):
        # Joined pads 0 and 1, a gap, joined pads 3 and 4.
        boxes = [pad(0, 4), pad(1, 4), pad(3, 4), pad(4, 4)]
        self.assertEqual(links(made(columns=5), boxes, 9, 0, 0), [("link", (1, 0, 4), (3, 0, 4)), ("link", (3, 0, 4), (1, 0, 4))])
        # Over an edge to another one behind it, and on to the next one.
        boxes = [pad(0, 4), pad(2, 4), pad(4, 4)]
        told = [("link", (n, 0, 4), (m, 0, 4)) for n, others in ((0, (2, 4)), (2, (4, 0)), (4, (2, 0))) for m in others]
        self.assertEqual(links(made(columns=5), boxes, 9, 0, 0), told)

    def test_what_is_joined_the_other_way_does_not_matter(self):
        boxes = [pad(0, 4), pad(1, 5), pad(3, 6), pad(4, 5)]
        self.assertEqual(links(made(columns=5), boxes, 2, 1, 1), [("link", (1, 0, 5), (3, 0, 6)), ("link", (3, 0, 6), (1, 0, 5))])
        # With a step of 0 the pads are not joined.
        told = [("link", one, other) for one, other in (
            ((0, 0, 4), (1, 0, 5)), ((1, 0, 5), (3, 0, 6)), ((1, 0, 5), (0, 0, 4)),
            ((3, 0, 6), (4, 0, 5)), ((3, 0, 6), (1, 0, 5)), ((4, 0, 5), (3, 0, 6)))]
        self.assertEqual(links(made(columns=5, step=0), boxes, 2, 1, 1), told)

    def test_joined_floors_above_or_below(self):
        # On the left two floors; the upper one is joined to the right, the lower one is an edge.
        boxes = [pad(0, 2), pad(0, 9, low=8), pad(1, 9, low=8), pad(2, 2)]
        self.assertEqual(links(made(columns=3, height=5), boxes, 2, 0, 0), [("link", (0, 0, 2), (2, 0, 2)), ("link", (2, 0, 2), (0, 0, 2))])
        low = ("link", (1, 0, 9), (2, 0, 2))
        self.assertIn(low, links(made(columns=3, height=5), boxes, 2, 0, 9))
        self.assertNotIn(low, links(made(columns=3, height=5), boxes, 2, 9, 6))

    def test_order_of_directions_distances_and_levels(self):
        s = made(columns=5, rows=5, height=4)
        boxes = [pad(i, 4, k=k) for i, k in ((2, 2), (2, 0), (2, 4), (0, 2), (4, 2))]
        boxes += [pad(0, 9, k=2, low=8), pad(4, 9, k=2, low=8), pad(3, 7, k=2, low=6)]
        columns = grid_columns(s, [], boxes)
        floors = floors_of(s, columns, list(columns))
        found = links_from(s, columns, floors, ("jumps", 2, 9, 9), (2, 2, 4))
        # What hovers in the next cell on the right is in the way of the lower floor behind it.
        ends = [(3, 2, 7), (4, 2, 9), (0, 2, 4), (0, 2, 9), (2, 4, 4), (2, 0, 4)]
        self.assertEqual(found, [("link", (2, 2, 4), other) for other in ends])

    def test_against_the_second_way(self):
        many = 0
        for seed in range(200):
            s, soup, boxes, jumps = some_islands(seed)
            found = all_links(s, grid_columns(s, soup, boxes), jumps)
            self.assertEqual(found, Jumper(s, soup, boxes, jumps).links(), seed)
            many += len(found)
        self.assertGreater(many, 800)

    def test_wide_walkers(self):
        many = 0
        for seed in range(60):
            s, soup, boxes, jumps = some_islands(seed, columns=8, rows=6, width=1 + seed % 4)
            found = all_links(s, grid_columns(s, soup, boxes), jumps)
            self.assertEqual(found, Jumper(s, soup, boxes, jumps).links(), seed)
            many += len(found)
        self.assertGreater(many, 30)

    def test_tiles_put_together(self):
        for seed in range(60):
            s, soup, boxes, jumps = some_islands(seed)
            _, far, _, _ = jumps
            found = []
            for a, b in s.tiles():
                cells = s.tile_cells(a, b)
                wide = far + 1 + s.reach
                (i0, k0), (i1, k1) = cells[0], cells[-1]
                columns = columns_of(s, soup, boxes, i0 - wide, k0 - wide, i1 + wide, k1 + wide)
                of_tile = tile_links(s, columns, jumps, a, b)
                self.assertTrue(all(link[1][:2] in cells for link in of_tile), seed)
                found += of_tile
            self.assertEqual(found, all_links(s, grid_columns(s, soup, boxes), jumps), seed)

    def test_floors_near_are_enough(self):
        # links_from is asked with the floors of a row and a column alone.
        for seed in range(40):
            s, soup, boxes, jumps = some_islands(seed)
            columns = grid_columns(s, soup, boxes)
            floors = floors_of(s, columns, list(columns))
            told = all_links(s, columns, jumps)
            wide = jumps[1] + 1
            for (i, k), levels in floors.items():
                near = {cell: kept for cell, kept in floors.items()
                        if (cell[0] == i and abs(cell[1] - k) <= wide) or (cell[1] == k and abs(cell[0] - i) <= wide)}
                for level in levels:
                    wanted = [link for link in told if link[1] == (i, k, level)]
                    self.assertEqual(links_from(s, columns, near, jumps, (i, k, level)), wanted, seed)

    def test_nothing_is_changed_or_shared(self):
        s, soup, boxes, jumps = some_islands(5, columns=6, rows=4, width=0)
        columns = grid_columns(s, soup, boxes)
        floors = floors_of(s, columns, list(columns))
        kept = repr((columns, floors, jumps))
        one, other = all_links(s, columns, jumps), all_links(s, columns, jumps)
        links_from(s, columns, floors, jumps, one[0][1]).clear()
        is_flight(s, columns, one[0][1], one[0][2])
        one.clear()
        self.assertEqual(repr((columns, floors, jumps)), kept)
        self.assertEqual(other, all_links(s, columns, jumps))
        self.assertTrue(other)


class Bodies(unittest.TestCase):
    """Point 16.5."""

    def test_links(self):
        many = 0
        for seed in range(200):
            s, soup, boxes, jumps = some_islands(seed, width=(0, 0, 1, 3)[seed % 4])
            for _, place, other in all_links(s, grid_columns(s, soup, boxes), jumps):
                self.assertTrue(is_swept_free(s, soup, boxes, place, other), (seed, place, other))
                many += 1
        self.assertGreater(many, 500)

    def test_any_flight_that_is_free(self):
        many = 0
        for seed in range(150):
            s, soup, boxes, _ = some_islands(seed)
            chance = random.Random(seed)
            columns = grid_columns(s, soup, boxes)
            for _ in range(6):
                i, k, j = chance.randrange(s.columns), chance.randrange(s.rows), chance.randrange(s.columns)
                place, other = (i, k, chance.randint(-3, 7)), (j, k, chance.randint(-3, 7))
                if i != j and is_flight(s, columns, place, other):
                    self.assertTrue(is_swept_free(s, soup, boxes, place, other), (seed, place, other))
                    many += 1
        self.assertGreater(many, 150)

    def test_moments(self):
        for seed in range(40):
            s, soup, boxes, jumps = some_islands(seed, width=1)
            chance = random.Random(seed)
            for _, place, other in all_links(s, grid_columns(s, soup, boxes), jumps)[:6]:
                begin = [place[n] * s.cell + chance.randint(0, s.cell) for n in (0, 1)]
                top = max(place[2], other[2])
                for share in (Fraction(n, 5) for n in range(6)):
                    end = [b + (other[n] - place[n]) * s.cell for n, b in enumerate(begin)]
                    carried = [b + (e - b) * share for b, e in zip(begin, end)]
                    lifted, put_down = place[2] + (top - place[2]) * share, other[2] + (top - other[2]) * share
                    for (x, z), level in ((begin, lifted), (carried, top), (end, put_down)):
                        self.assertTrue(stands_free(s, soup, boxes, x, z, level), seed)
                        if x == int(x) and z == int(z) and level == int(level):
                            self.assertTrue(is_free(s, soup, boxes, int(x), int(z), int(level)), seed)


if __name__ == "__main__":
    unittest.main()
