"""Points 7.1 to 7.3 and 0.10: worlds, their boxes, and the plates of their tiles."""

from itertools import permutations
import random
import unittest

from footpath.errors import PlaceError, SoupError
from footpath.plates import mesh
from footpath.settings import Settings
from footpath.solids import columns_of
from footpath.world import World, reached_tiles
from tests.reference import FAR, some_box, some_world, whole_mesh

GROUND = [((0, 0, 0), (0, 0, 900), (900, 0, 0))]


def made(**changes):
    good = dict(columns=4, rows=4, cell=10, level=5, width=0, height=20, step=5, slope=(1, 2), tile=2)
    return Settings(**{**good, **changes})


def post(i, k):
    """A box that stands in the middle of a cell."""
    return (10 * i + 4, 0, 10 * k + 4, 10 * i + 6, 9, 10 * k + 6, False)


def tiles_near(settings, box):
    """Point 7.2, tile by tile and cell by cell."""
    side, reach = settings.cell, settings.reach
    met = [
        (i, k)
        for i in range(settings.columns)
        for k in range(settings.rows)
        if box[0] <= (i + 1) * side and i * side <= box[3] and box[2] <= (k + 1) * side and k * side <= box[5]
    ]
    return [
        (a, b)
        for a, b in settings.tiles()
        if any(abs(i - j) <= reach and abs(k - h) <= reach for i, k in met for j, h in settings.tile_cells(a, b))
    ]


class Reached(unittest.TestCase):

    def test_without_reach(self):
        s = made()
        self.assertEqual(reached_tiles(s, post(0, 0)), [(0, 0)])
        self.assertEqual(reached_tiles(s, post(1, 2)), [(0, 1)])
        self.assertEqual(reached_tiles(s, (0, 0, 0, 40, 1, 40, True)), [(0, 0), (1, 0), (0, 1), (1, 1)])

    def test_sides_and_corners(self):
        s = made()
        self.assertEqual(reached_tiles(s, (12, 0, 12, 19, 1, 19, True)), [(0, 0)])
        self.assertEqual(reached_tiles(s, (12, 0, 12, 20, 1, 19, True)), [(0, 0), (1, 0)])
        self.assertEqual(reached_tiles(s, (12, 0, 12, 20, 1, 20, True)), [(0, 0), (1, 0), (0, 1), (1, 1)])

    def test_reach(self):
        every = [(0, 0), (1, 0), (0, 1), (1, 1)]
        told = {0: [(1, 0)], 1: [(0, 0), (1, 0)], 10: [(0, 0), (1, 0)], 11: every, 40: every}
        for width, wanted in told.items():
            self.assertEqual(reached_tiles(made(width=width), post(2, 0)), wanted)
        self.assertEqual(reached_tiles(made(width=10), post(3, 0)), [(1, 0)])

    def test_outside_of_the_grid(self):
        for width in (0, 40):
            s = made(width=width)
            self.assertEqual(reached_tiles(s, (-9, 0, 0, -1, 1, 40, True)), [])
            self.assertEqual(reached_tiles(s, (41, 0, 0, 99, 1, 40, True)), [])
            self.assertEqual(reached_tiles(s, (0, 0, 41, 40, 1, 99, True)), [])
        self.assertEqual(reached_tiles(made(), (-9, 0, -9, 0, 1, 0, True)), [(0, 0)])
        self.assertEqual(reached_tiles(made(), (40, 0, 40, FAR, 1, FAR, True)), [(1, 1)])

    def test_cut_off_tiles(self):
        s = made(columns=5, rows=7, tile=3, width=5)
        self.assertEqual(reached_tiles(s, post(4, 6)), [(1, 1), (1, 2)])
        self.assertEqual(reached_tiles(s, post(3, 4)), [(0, 1), (1, 1)])

    def test_against_the_second_way(self):
        for seed in range(300):
            chance = random.Random(seed)
            s = made(columns=chance.randint(1, 7), rows=chance.randint(1, 7), width=chance.choice((0, 9, 11, 40)), tile=chance.randint(2, 4))
            box = some_box(chance, s)
            self.assertEqual(reached_tiles(s, box), tiles_near(s, box), seed)


class Worlds(unittest.TestCase):

    def test_example(self):
        w = World(made(), [((0, 0, 0), (0, 0, 90), (90, 0, 0))])
        self.assertEqual([len(w.mesh()[0]), w.built, w.stale()], [4, 4, []])
        self.assertEqual([w.put((5, 0, 5, 6, 9, 6, False)), w.stale(), len(w.mesh()[0]), w.built], [1, [(0, 0)], 5, 5])

    def test_fields_of_a_new_world(self):
        s = made()
        w = World(s, GROUND)
        self.assertIs(w.settings, s)
        self.assertEqual((w.soup, w.built, w.changes, w.box_list()), (GROUND, 0, 0, []))
        self.assertEqual(w.stale(), [(0, 0), (1, 0), (0, 1), (1, 1)])

    def test_wrong_soup(self):
        with self.assertRaises(SoupError) as caught:
            World(made(), GROUND + [((0, 0, 0), (0, FAR + 1, 0), (0, 0, 0))] * 2)
        self.assertEqual(caught.exception.at, 1)

    def test_empty_soup(self):
        w = World(made(), [])
        self.assertEqual(w.mesh(), ([], []))
        self.assertEqual(w.put((0, 0, 0, 40, 5, 40, True)), 1)
        self.assertEqual(len(w.mesh()[0]), 4)

    def test_numbers(self):
        w = World(made(), GROUND)
        self.assertEqual([w.put(post(i, 0)) for i in range(3)], [1, 2, 3])
        w.take(3)
        w.take(1)
        self.assertEqual(w.put(post(0, 0)), 4)
        self.assertEqual(w.box_list(), [post(1, 0), post(0, 0)])
        w.take(2)
        self.assertEqual([w.put(post(1, 0)), w.box_list()], [5, [post(0, 0), post(1, 0)]])
        self.assertEqual(w.changes, 8)

    def test_the_same_box_twice(self):
        w = World(made(), GROUND)
        plain = w.mesh()
        self.assertEqual([w.put(post(0, 0)), w.put(post(0, 0))], [1, 2])
        with_box = w.mesh()
        w.take(1)
        self.assertEqual([w.box_list(), w.mesh()], [[post(0, 0)], with_box])
        w.take(2)
        self.assertEqual([w.box_list(), w.mesh()], [[], plain])

    def test_wrong_boxes_change_nothing(self):
        w = World(made(), GROUND)
        w.put(post(0, 0))
        found = w.mesh()
        for wrong in ((5, 0, 0, 5, 1, 1, True), (0, 2, 0, 1, 1, 1, False), (0, 0, 0, 1, 1, FAR + 1, True), (-FAR - 1, 0, 0, 1, 1, 1, True)):
            with self.assertRaises(SoupError) as caught:
                w.put(wrong)
            self.assertEqual(caught.exception.at, 0)
            self.assertEqual((w.stale(), w.changes, w.built, w.box_list()), ([], 1, 4, [post(0, 0)]))
        self.assertEqual(w.mesh(), found)
        self.assertEqual(w.put(post(1, 1)), 2)

    def test_wrong_numbers_change_nothing(self):
        w = World(made(), GROUND)
        for _ in range(3):
            w.put(post(0, 0))
        w.take(2)
        found = w.mesh()
        for wrong in (2, 0, -1, 4, 10 ** 30):
            with self.assertRaises(PlaceError) as caught:
                w.take(wrong)
            self.assertEqual(caught.exception.name, "box")
            self.assertEqual((w.stale(), w.changes, w.built, w.box_list()), ([], 4, 4, [post(0, 0)] * 2))
        self.assertEqual(w.mesh(), found)
        self.assertEqual(w.put(post(0, 0)), 4)

    def test_wrong_tiles_change_nothing(self):
        w = World(made(columns=5), GROUND)
        w.tile(2, 1)
        for wrong in ((-1, 0), (0, -1), (3, 0), (0, 2), (10 ** 30, 0), (-3, -2)):
            with self.assertRaises(PlaceError) as caught:
                w.tile(*wrong)
            self.assertEqual(caught.exception.name, "tile")
        self.assertEqual((w.built, len(w.stale()), w.changes), (1, 5, 0))

    def test_stale_tiles(self):
        w = World(made(width=11), GROUND)
        self.assertEqual(w.tile(1, 0), w.tile(1, 0))
        self.assertEqual((w.built, w.stale()), (1, [(0, 0), (0, 1), (1, 1)]))
        w.mesh()
        self.assertEqual((w.built, w.stale()), (4, []))
        number = w.put(post(0, 0))
        self.assertEqual(w.stale(), [(0, 0), (1, 0), (0, 1), (1, 1)])
        w.tile(0, 1)
        self.assertEqual((w.built, w.stale()), (5, [(0, 0), (1, 0), (1, 1)]))
        w.take(number)
        self.assertEqual((w.built, len(w.stale())), (5, 4))

    def test_put_in_and_taken_out_again_is_stale(self):
        w = World(made(), GROUND)
        found = w.mesh()
        w.take(w.put(post(3, 3)))
        self.assertEqual((w.stale(), w.changes), ([(1, 1)], 2))
        self.assertEqual((w.mesh(), w.built), (found, 5))

    def test_boxes_outside_make_nothing_stale(self):
        w = World(made(width=40), GROUND)
        w.mesh()
        self.assertEqual(w.put((-5, 0, 0, -1, 9, 9, True)), 1)
        self.assertEqual((w.stale(), w.changes), ([], 1))
        w.take(1)
        self.assertEqual((w.stale(), w.changes, w.mesh(), w.built), ([], 2, w.mesh(), 4))

    def test_a_tile_that_is_not_stale_is_not_built_again(self):
        w = World(made(), GROUND)
        for tile in ((1, 1), (0, 0), (1, 1), (0, 0), (0, 0)):
            w.tile(*tile)
        self.assertEqual(w.built, 2)
        w.mesh()
        w.mesh()
        self.assertEqual(w.built, 4)

    def test_portals_change_with_the_tiles(self):
        w = World(made(), GROUND)
        self.assertEqual([portal[1:3] for portal in w.mesh()[1]], [(0, 1), (0, 2), (1, 3), (2, 3)])
        w.put((20, 0, 2, 21, 9, 18, False))
        self.assertEqual([portal[1:3] for portal in w.mesh()[1]], [(0, 2), (1, 3), (2, 3)])

    def test_results_are_not_shared(self):
        soup = list(GROUND)
        w = World(made(), soup)
        w.put(post(0, 0))
        plates, portals = w.mesh()
        told = (list(plates), list(portals))
        soup.clear()
        for one in (plates, portals, w.tile(0, 0), w.tile(0, 1), w.box_list(), w.stale(), w.tile(0, 0)):
            one.append("mine")
            one.clear()
        self.assertEqual((w.mesh(), w.box_list(), w.stale()), (told, [post(0, 0)], []))
        w.put(post(3, 3))
        self.assertEqual((w.soup, len(w.tile(1, 1)), len(w.tile(0, 0))), (GROUND, 2, 2))

    def test_settings_and_soup_are_not_changed(self):
        s, soup = made(), list(GROUND)
        before = dict(vars(s))
        w = World(s, soup)
        w.mesh()
        self.assertEqual((soup, vars(s)), (GROUND, before))

    def test_kinds(self):
        w = World(made(), GROUND)
        self.assertEqual([type(one) for one in (w.mesh(),) + w.mesh()], [tuple, list, list])
        self.assertEqual([type(one) for one in (w.tile(0, 0), w.stale(), w.box_list(), w.put(post(0, 0)))], [list, list, list, int])
        self.assertIsNone(w.take(1))


class AskedInAnyOrder(unittest.TestCase):
    """Point 0.10: what has been asked before makes no difference."""

    def wanted(self, world):
        s = world.settings
        return mesh(s, columns_of(s, world.soup, world.box_list(), 0, 0, s.columns - 1, s.rows - 1))

    def as_told(self, world, wanted, seed):
        """Each tile has the plates of the mesh that lie in it, and the mesh is the wanted one."""
        side = world.settings.tile
        for a, b in world.settings.tiles():
            inside = [plate for plate in wanted[0] if (plate[1] // side, plate[2] // side) == (a, b)]
            self.assertEqual(world.tile(a, b), inside, seed)
        self.assertEqual(world.mesh(), wanted, seed)

    def test_all_orders_of_tiles(self):
        s = made(columns=4, rows=3, width=5)
        for order in permutations(s.tiles()):
            w = World(s, GROUND)
            w.put(post(1, 1))
            plates = {tile: w.tile(*tile) for tile in order}
            self.assertEqual([plate for tile in s.tiles() for plate in plates[tile]], w.mesh()[0])
            self.assertEqual((w.mesh(), w.built), (self.wanted(w), 4))

    def test_against_the_second_way(self):
        for seed in range(60):
            s, soup, boxes = some_world(seed)
            w = World(s, soup)
            numbers = [w.put(box) for box in boxes]
            self.assertEqual(w.mesh(), whole_mesh(s, soup, boxes)[0], seed)
            for number in numbers[::2]:
                w.take(number)
            self.assertEqual(w.mesh(), whole_mesh(s, soup, boxes[1::2])[0], seed)

    def test_some_histories(self):
        for seed in range(120):
            chance = random.Random(seed)
            s, soup, _ = some_world(seed, slack=seed % 3)
            w = World(s, soup)
            standing, stale, built, changes = {}, set(s.tiles()), 0, 0
            for _ in range(25):
                turn = chance.randrange(5)
                if turn < 2:
                    box = some_box(chance, s)
                    standing[w.put(box)] = box
                elif turn == 2 and standing:
                    number = chance.choice(sorted(standing))
                    box = standing.pop(number)
                    w.take(number)
                else:
                    tile = chance.choice(s.tiles())
                    w.tile(*tile)
                    built += tile in stale
                    stale.discard(tile)
                    box = None
                if box is not None:
                    changes += 1
                    stale |= set(tiles_near(s, box))
                self.assertEqual(w.stale(), [tile for tile in s.tiles() if tile in stale], seed)
                self.assertEqual((w.built, w.changes), (built, changes), seed)
                self.assertEqual(w.box_list(), [standing[number] for number in sorted(standing)], seed)
            self.as_told(w, self.wanted(w), seed)


if __name__ == "__main__":
    unittest.main()
