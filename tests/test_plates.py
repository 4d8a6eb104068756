"""Points 6.1 to 6.4 and 0.8: plates, portals, and the mesh of a grid."""

from collections import Counter
import unittest

from footpath.plates import joined_portals, mesh, owners, plate_floors, tile_plates
from footpath.settings import Settings
from footpath.solids import columns_of
from tests.reference import all_floors, all_plates, all_portals, joined_pairs, some_world, whole_mesh


def made(**changes):
    good = dict(columns=4, rows=4, cell=10, level=1, width=0, height=6, step=1, slope=(1, 2), tile=4)
    return Settings(**{**good, **changes})


def columns_from(*rows):
    """Columns from rows of lists of levels, one list for each cell: a thin ground ends at each level."""
    return {
        (i, k): [(level - 1, level, level) for level in levels]
        for k, row in enumerate(rows)
        for i, levels in enumerate(row)
    }


def grid_of(*rows, **changes):
    """Settings and columns for rows of words, one for each cell: a level, a dot for none, 1/8 for two of them."""
    lists = [[[] if word == "." else [int(part) for part in word.split("/")] for word in row.split()] for row in rows]
    return made(columns=len(lists[0]), rows=len(rows), **changes), columns_from(*lists)


class Examples(unittest.TestCase):

    def test_example(self):
        s = made(rows=2, step=2, tile=3)
        columns = columns_of(s, [((-9, 0, -9), (99, 0, -9), (-9, 0, 99))], [(22, 0, 12, 28, 9, 18, False)], 0, 0, 3, 1)
        plates, portals = mesh(s, columns)
        self.assertEqual(plates, [("plate", 0, 0, 2, 0, (1, 1, 1)), ("plate", 0, 1, 1, 1, (1, 1)), ("plate", 3, 0, 3, 1, (1, 1))])
        self.assertEqual(portals, [("portal", 0, 2, 30, 0, 30, 10), ("portal", 0, 1, 0, 10, 20, 10)])


class Plates(unittest.TestCase):

    def plates(self, wanted, *rows, **changes):
        s, columns = grid_of(*rows, **changes)
        given = {cell: list(solids) for cell, solids in columns.items()}
        self.assertEqual(tile_plates(s, columns, 0, 0), [("plate",) + one for one in wanted])
        self.assertEqual(columns, given)

    def test_no_floors(self):
        self.plates([], ". .", ". .")

    def test_one_plate(self):
        self.plates([(0, 0, 2, 1, (1, 1, 1, 1, 1, 1))], "1 1 1", "1 1 1")

    def test_levels_are_in_the_order_of_k_then_i(self):
        self.plates([(0, 0, 1, 1, (1, 2, 2, 3))], "1 2", "2 3")
        self.plates([(0, 0, 2, 1, (1, 2, 3, 2, 3, 4))], "1 2 3", "2 3 4")

    def test_first_row_ends_at_a_hole_and_at_a_step(self):
        self.plates([(0, 0, 1, 0, (1, 1)), (3, 0, 3, 0, (1,))], "1 1 . 1")
        self.plates([(0, 0, 1, 0, (1, 2)), (2, 0, 3, 0, (4, 4))], "1 2 4 4")

    def test_row_below_is_wider(self):
        self.plates([(0, 0, 0, 1, (1, 1)), (1, 1, 1, 1, (1,))], "1 .", "1 1")

    def test_row_below_is_too_short(self):
        self.plates([(0, 0, 1, 0, (1, 1)), (0, 1, 0, 2, (1, 1)), (1, 2, 1, 2, (1,))], "1 1", "1 .", "1 1")

    def test_row_below_begins_later(self):
        self.plates([(0, 0, 1, 0, (1, 1)), (1, 1, 1, 2, (1, 1)), (0, 2, 0, 2, (1,))], "1 1", ". 1", "1 1")

    def test_row_below_is_not_joined_in_itself(self):
        # Both are joined to those above, but not to one another.
        self.plates([(0, 0, 1, 0, (2, 3)), (0, 1, 0, 1, (1,)), (1, 1, 1, 1, (4,))], "2 3", "1 4")

    def test_row_below_is_not_joined_to_the_one_above(self):
        self.plates([(0, 0, 1, 0, (1, 1)), (0, 1, 0, 1, (1,)), (1, 1, 1, 1, (3,))], "1 1", "1 3")

    def test_first_row_that_does_not_fit_ends_the_plate(self):
        wanted = [(0, 0, 1, 0, (1, 1)), (0, 1, 0, 2, (1, 1)), (1, 1, 1, 1, (5,)), (1, 2, 1, 2, (1,))]
        self.plates(wanted, "1 1", "1 5", "1 1")

    def test_floors_of_an_earlier_plate_end_a_row(self):
        self.plates([(2, 0, 2, 2, (1, 1, 1)), (0, 1, 1, 2, (1, 1, 1, 1))], ". . 1", "1 1 1", "1 1 1")

    def test_floors_of_an_earlier_plate_end_a_plate(self):
        # The plate at (3, 0) goes down to (3, 1), which the row at (1, 1) comes to.
        self.plates([(0, 0, 1, 1, (1, 1, 1, 1)), (3, 0, 3, 1, (1, 1)), (2, 1, 2, 1, (1,))], "1 1 . 1", "1 1 1 1")

    def test_two_storeys(self):
        self.plates([(0, 0, 1, 1, (1, 1, 1, 1)), (0, 0, 1, 1, (8, 8, 8, 8))], "1/8 1/8", "1/8 1/8")
        self.plates([(0, 0, 1, 0, (1, 1)), (1, 0, 1, 1, (8, 8)), (0, 1, 0, 1, (1,))], "1 1/8", "1 8")

    def test_plates_begin_by_cells_and_then_by_levels(self):
        self.plates([(0, 0, 0, 0, (1,)), (0, 0, 0, 0, (8,)), (0, 1, 0, 1, (4,))], "1/8", "4", step=2)

    def test_spiral(self):
        # Up around a hole: the first storey's plate ends where the second one is joined to it.
        self.plates(
            [(0, 0, 2, 0, (1, 2, 3)), (0, 0, 0, 2, (9, 8, 7)), (2, 1, 2, 2, (4, 5)), (1, 2, 1, 2, (6,))],
            "1/9 2 3", "8 . 4", "7 6 5",
        )

    def test_tiles_end_plates(self):
        rows = ["1 1 1 1 1"] * 5
        wanted = {(0, 0): (0, 0, 1, 1), (2, 0): (4, 0, 4, 1), (0, 2): (0, 4, 1, 4), (2, 2): (4, 4, 4, 4), (1, 1): (2, 2, 3, 3)}
        for tile, ends in wanted.items():
            many = (ends[2] - ends[0] + 1) * (ends[3] - ends[1] + 1)
            s, columns = grid_of(*rows, tile=2)
            self.assertEqual(tile_plates(s, columns, *tile), [("plate",) + ends + ((1,) * many,)])

    def test_columns_within_reach_are_enough(self):
        s = made(columns=8, rows=8, tile=2, width=10)
        near = {(i, k): [(0, 1, 1)] for i in range(1, 5) for k in range(3, 7)}
        self.assertEqual(tile_plates(s, near, 1, 2), [("plate", 2, 4, 3, 5, (1, 1, 1, 1))])
        border = {(i, k): [(0, 1, 1)] for i in range(3) for k in range(3)}
        self.assertEqual(tile_plates(s, border, 0, 0), [("plate", 1, 1, 1, 1, (1,))])


class Floors(unittest.TestCase):

    def test_plate_floors(self):
        self.assertEqual(plate_floors(("plate", 2, 5, 2, 5, (-4,))), [(2, 5, -4)])
        self.assertEqual(
            plate_floors(("plate", 1, 2, 2, 4, (1, 2, 3, 4, 5, 6))),
            [(1, 2, 1), (2, 2, 2), (1, 3, 3), (2, 3, 4), (1, 4, 5), (2, 4, 6)],
        )

    def test_owners(self):
        plates = [("plate", 0, 0, 1, 0, (1, 2)), ("plate", 0, 0, 0, 1, (9, 8))]
        self.assertEqual(owners(plates), {(0, 0, 1): 0, (1, 0, 2): 0, (0, 0, 9): 1, (0, 1, 8): 1})
        self.assertEqual(owners([]), {})
        self.assertEqual(plates, [("plate", 0, 0, 1, 0, (1, 2)), ("plate", 0, 0, 0, 1, (9, 8))])


class Portals(unittest.TestCase):

    def portals(self, wanted, *plates, **changes):
        given = [("plate",) + plate for plate in plates]
        self.assertEqual(joined_portals(made(**changes), given), [("portal",) + one for one in wanted])
        self.assertEqual(given, [("plate",) + plate for plate in plates])

    def test_none(self):
        self.portals([])
        self.portals([], (0, 0, 3, 3, (1,) * 16))
        self.portals([], (0, 0, 0, 0, (1,)), (2, 0, 2, 0, (1,)), (1, 1, 1, 1, (1,)))

    def test_to_the_right(self):
        self.portals([(0, 1, 20, 0, 20, 20)], (0, 0, 1, 1, (1, 1, 1, 1)), (2, 0, 2, 1, (1, 1)))
        self.portals([(1, 0, 20, 0, 20, 20)], (2, 0, 2, 1, (1, 1)), (0, 0, 1, 1, (1, 1, 1, 1)))

    def test_below(self):
        self.portals([(0, 1, 0, 20, 20, 20)], (0, 0, 1, 1, (1, 1, 1, 1)), (0, 2, 1, 2, (1, 1)))
        self.portals([(1, 0, 0, 20, 20, 20)], (0, 2, 1, 2, (1, 1)), (0, 0, 1, 1, (1, 1, 1, 1)))

    def test_a_part_of_the_side(self):
        self.portals([(0, 1, 10, 10, 10, 30)], (0, 0, 0, 3, (1,) * 4), (1, 1, 1, 2, (1, 1)))
        self.portals([(0, 1, 10, 10, 30, 10)], (0, 0, 3, 0, (1,) * 4), (1, 1, 2, 1, (1, 1)))
        self.portals([(0, 1, 10, 10, 10, 20)], (0, 0, 0, 3, (5, 4, 3, 2)), (1, 0, 1, 3, (7, 5, 5, 4)))

    def test_rise_and_one_more(self):
        for step in (0, 1, 2):
            for sign in (1, -1):
                self.portals([(0, 1, 10, 0, 10, 10)], (0, 0, 0, 0, (3,)), (1, 0, 1, 0, (3 + sign * step,)), step=step)
                self.portals([], (0, 0, 0, 0, (3,)), (1, 0, 1, 0, (4 + step if sign == 1 else 2 - step,)), step=step)

    def test_the_right_side_comes_before_the_lower_one(self):
        self.portals(
            [(0, 3, 20, 0, 20, 10), (0, 1, 20, 10, 20, 20), (0, 2, 0, 20, 10, 20), (0, 4, 10, 20, 20, 20), (2, 4, 10, 20, 10, 30), (3, 1, 20, 10, 30, 10)],
            (0, 0, 1, 1, (1,) * 4), (2, 1, 2, 1, (1,)), (0, 2, 0, 2, (1,)), (2, 0, 2, 0, (1,)), (1, 2, 1, 2, (1,)),
        )

    def test_same_neighbour_twice_with_a_gap_between(self):
        self.portals([(0, 1, 10, 0, 10, 10), (0, 1, 10, 20, 10, 30)], (0, 0, 0, 2, (2, 3, 2)), (1, 0, 1, 2, (2, 1, 2)))
        self.portals([(0, 1, 0, 10, 20, 10), (0, 1, 30, 10, 40, 10)], (0, 0, 3, 0, (2, 2, 3, 2)), (0, 1, 3, 1, (2, 2, 1, 2)))

    def test_same_neighbour_twice_with_another_one_between(self):
        plates = [(0, 0, 0, 2, (2, 3, 2)), (1, 0, 1, 2, (2, 1, 2)), (1, 1, 1, 1, (4,))]
        wanted = [(0, 1, 10, 0, 10, 10), (0, 2, 10, 10, 10, 20), (0, 1, 10, 20, 10, 30)]
        self.portals(wanted, *plates)

    def test_neighbours_one_behind_the_other(self):
        self.portals(
            [(0, 1, 10, 0, 10, 10), (0, 2, 10, 10, 10, 30), (1, 2, 10, 10, 20, 10)],
            (0, 0, 0, 2, (1, 1, 1)), (1, 0, 1, 0, (1,)), (1, 1, 1, 2, (1, 1)),
        )

    def test_storeys_are_not_joined(self):
        self.portals(
            [(0, 2, 10, 0, 10, 10), (1, 3, 10, 0, 10, 10)],
            (0, 0, 0, 0, (1,)), (0, 0, 0, 0, (8,)), (1, 0, 1, 0, (1,)), (1, 0, 1, 0, (7,)),
        )

    def test_mesh_of_a_spiral(self):
        s, columns = grid_of("1/9 2 3", "8 . 4", "7 6 5")
        plates, portals = mesh(s, columns)
        self.assertEqual(len(plates), 4)
        self.assertEqual(portals, [
            ("portal", 0, 2, 20, 10, 30, 10), ("portal", 1, 3, 10, 20, 10, 30), ("portal", 3, 2, 20, 20, 20, 30),
        ])


class Meshes(unittest.TestCase):

    def test_tiles_in_order(self):
        s, columns = grid_of(*["1 1 1 1 1"] * 3, tile=2)
        plates, portals = mesh(s, columns)
        ends = [(0, 0, 1, 1), (2, 0, 3, 1), (4, 0, 4, 1), (0, 2, 1, 2), (2, 2, 3, 2), (4, 2, 4, 2)]
        self.assertEqual([plate[1:5] for plate in plates], ends)
        self.assertEqual([portal[1:3] for portal in portals], [(0, 1), (0, 3), (1, 2), (1, 4), (2, 5), (3, 4), (4, 5)])

    def test_results_are_not_shared(self):
        s, columns = grid_of("1 1", "1 1", tile=2)
        for _ in range(2):
            plates, portals = mesh(s, columns)
            self.assertEqual((plates, portals), ([("plate", 0, 0, 1, 1, (1, 1, 1, 1))], []))
            plates.clear()
            portals.append("mine")

    def test_kinds(self):
        s, columns = grid_of("1 3", "1 1")
        found = mesh(s, columns)
        self.assertEqual([type(one) for one in (found,) + found], [tuple, list, list])
        self.assertEqual({type(one) for one in found[0] + found[1]}, {tuple})
        self.assertEqual({type(plate[5]) for plate in found[0]}, {tuple})

    def test_against_the_second_way(self):
        for seed in range(150):
            s, soup, boxes = some_world(seed)
            wanted, floors, joined = whole_mesh(s, soup, boxes)
            found = mesh(s, columns_of(s, soup, boxes, 0, 0, s.columns - 1, s.rows - 1))
            self.assertEqual(found, wanted, seed)
            self.each_once(s, found, floors, joined)

    def each_once(self, settings, found, floors, joined):
        """Point 0.8, and that what lies beside one another in a plate is joined."""
        plates, portals = found
        places = [floor for plate in plates for floor in plate_floors(plate)]
        self.assertEqual(Counter(places), Counter(floors))
        owner = owners(plates)
        sides = Counter()
        for _, p, q, x0, z0, x1, z1 in portals:
            for x in range(x0, x1 + (x0 == x1), settings.cell):
                for z in range(z0, z1 + (z0 == z1), settings.cell):
                    sides[(p, q, x, z)] += 1
        wanted = Counter()
        for one, other in joined:
            if owner[one] != owner[other]:
                wanted[(owner[one], owner[other], other[0] * settings.cell, other[1] * settings.cell)] += 1
        self.assertEqual(sides, wanted)
        inside = {(one, other) for one, other in joined if owner[one] == owner[other]}
        for plate in plates:
            _, i0, k0, i1, k1, levels = plate
            at = {(i, k): (i, k, level) for i, k, level in plate_floors(plate)}
            self.assertEqual(len(at), (i1 - i0 + 1) * (k1 - k0 + 1))
            self.assertEqual(len(levels), len(at))
            for (i, k), floor in at.items():
                for cell in ((i + 1, k), (i, k + 1)):
                    self.assertTrue(cell not in at or (floor, at[cell]) in inside)

    def test_small_grids_of_all_levels(self):
        # Every way to lay floors of three heights, or none, on a grid of 3 by 2 cells.
        words = ".", "1", "2", "3"
        for number in range(4 ** 6):
            digits = [words[number // 4 ** at % 4] for at in range(6)]
            s, columns = grid_of(" ".join(digits[:3]), " ".join(digits[3:]), tile=2)
            floors = all_floors(s, columns)
            joined = joined_pairs(s, floors)
            plates, portals = mesh(s, columns)
            self.assertEqual(plates, all_plates(s, floors, joined))
            self.assertEqual(portals, all_portals(s, plates, joined))
            if number % 16 == 0:
                self.each_once(s, (plates, portals), floors, joined)


if __name__ == "__main__":
    unittest.main()
