"""Points 19.1 to 19.6: costs of ways over floors, and price papers."""

from itertools import product
import random
import unittest

from footpath.costs import Ground, cheapest_floors, check_price, floor_cost, way_cost
from footpath.floors import floors_of
from footpath.settings import Settings
from tests.islands import some_islands
from tests.reference import all_columns, all_floors, joined_pairs, some_world
from tests.trails import grid_columns, some_garden

DIRECTIONS = ((1, 0), (-1, 0), (0, 1), (0, -1))


def made(**changes):
    good = dict(columns=3, rows=2, cell=4, level=1, width=0, height=5, step=1, slope=(1, 2))
    return Settings(**{**good, **changes})


FLOORS = {(0, 0): [1], (1, 0): [1], (2, 0): [1], (0, 1): [1], (1, 1): [2], (2, 1): [1]}


def example():
    return Ground(made(), FLOORS, [(5, 1, 6, 2, 0, 9, 7)], 1)


def some_area(chance, s):
    cell = s.cell
    x0, z0 = (chance.choice((chance.randint(-cell, cell * many), cell * chance.randint(0, many))) for many in (s.columns, s.rows))
    y0 = chance.randint(-2, 6) * s.level + chance.choice((0, 0, 1))
    sizes = [chance.choice((0, 1, cell, 2 * cell)) for _ in range(2)]
    return (x0, z0, x0 + sizes[0], z0 + sizes[1], y0, y0 + chance.randint(0, 5) * s.level,
            chance.choice((1, 2, chance.randint(1, 30), 1000)))


class Told:
    """Points 19.1 to 19.3 and 19.5 by their words, for the floors of a world."""

    def __init__(self, seed):
        chance = random.Random(seed)
        if seed % 3 == 2:
            self.s, soup, boxes, _ = some_islands(seed)
        else:
            self.s, soup, boxes = (some_garden, some_world)[seed % 3](seed)
        self.areas = [some_area(chance, self.s) for _ in range(chance.randint(0, 8))]
        self.climb = chance.choice((0, 1, 5, chance.randint(0, 1000)))
        columns = grid_columns(self.s, soup, boxes)
        self.floors = floors_of(self.s, columns, list(columns))
        self.ground = Ground(self.s, self.floors, self.areas, self.climb)
        self.places = sorted(all_floors(self.s, all_columns(self.s, soup, boxes)), key=lambda f: (f[1], f[0], f[2]))
        self.near = {place: {} for place in self.places}
        for one, other in joined_pairs(self.s, set(self.places)):
            cost = self.half(one) + self.half(other) + self.climb * abs(one[2] - other[2])
            self.near[one][other] = self.near[other][one] = cost

    def half(self, place):
        i, k, level = place
        side, y = self.s.cell, level * self.s.level
        costs = [1]
        for x0, z0, x1, z1, y0, y1, cost in self.areas:
            if not (x1 < i * side or (i + 1) * side < x0 or z1 < k * side or (k + 1) * side < z0 or y < y0 or y1 < y):
                costs.append(cost)
        return max(costs)

    def way_cost(self, way):
        if not way or way[0] not in self.near:
            return None
        total = 0
        for one, other in zip(way, way[1:]):
            if other not in self.near[one]:
                return None
            total += self.near[one][other]
        return total

    def least(self, start):
        """The least costs from a floor, by trying all steps until nothing changes."""
        costs = {start: 0}
        while True:
            kept = dict(costs)
            for one in kept:
                for other, cost in self.near[one].items():
                    costs[other] = min(costs.get(other, costs[one] + cost), costs[one] + cost)
            if costs == kept:
                return costs

    def search(self, start, goal):
        """The turns one after the other, each over all floors that are left."""
        settled, order, came = {}, [], {}
        while True:
            choices = []
            for place in self.places:
                if place in settled:
                    continue
                costs = [(settled[f] + self.near[f][place], at) for at, f in enumerate(order) if place in self.near[f]]
                if place == start:
                    costs = [(0, -1)]
                if costs:
                    cost, at = min(costs)
                    choices.append((cost, place[1], place[0], place[2], at))
            if not choices:
                return None
            cost, k, i, level, at = min(choices)
            place = (i, k, level)
            came[place] = order[at] if at >= 0 else None
            if place == goal:
                break
            settled[place] = cost
            order.append(place)
        way = [goal]
        while came[way[0]] is not None:
            way.insert(0, came[way[0]])
        marks = [place + (settled[place],) for place in self.places if place in settled]
        return ("price", cost, way, marks)

    def takes(self, start, goal, paper):
        _, paid, way, marks = paper
        if self.way_cost(way) != paid or (way[0], way[-1]) != (start, goal):
            return False
        places = [tuple(mark[:3]) for mark in marks]
        if any(place not in self.near or places.count(place) > 1 for place in places):
            return False
        number = {tuple(mark[:3]): mark[3] for mark in marks}
        if any(n > paid for n in number.values()):
            return False
        if not (number.get(start, 1) <= 0 or paid <= 0):
            return False
        for place, n in number.items():
            for other, cost in self.near[place].items():
                if (number[other] if other in number else paid) > n + cost:
                    return False
        return goal not in number or number[goal] == paid


class Costs(unittest.TestCase):

    def test_examples(self):
        ground = example()
        self.assertEqual(way_cost(ground, [(0, 0, 1), (1, 0, 1), (2, 0, 1)]), 16)
        paper = cheapest_floors(ground, (0, 0, 1), (2, 0, 1))
        way = [(0, 0, 1), (0, 1, 1), (1, 1, 2), (2, 1, 1), (2, 0, 1)]
        marks = [(0, 0, 1, 0), (1, 0, 1, 8), (0, 1, 1, 2), (1, 1, 2, 5), (2, 1, 1, 8)]
        self.assertEqual(paper, ("price", 10, way, marks))
        self.assertIs(check_price(ground, (0, 0, 1), (2, 0, 1), paper), True)
        short = ("price", 16, [(0, 0, 1), (1, 0, 1), (2, 0, 1)], [])
        self.assertIs(check_price(ground, (0, 0, 1), (2, 0, 1), short), False)

    def test_areas_and_cells(self):
        s = made(level=2)
        # The cell (1, 1) has x and z from 4 to 8; the level 3 is at the height 6.
        for x0, x1, meets in ((0, 3, False), (0, 4, True), (5, 6, True), (4, 4, True), (8, 8, True), (8, 99, True), (9, 99, False),
                              (-9, 99, True)):
            self.assertEqual(floor_cost(s, [(x0, 0, x1, 99, 0, 99, 7)], (1, 1, 3)), 7 if meets else 1, (x0, x1))
            self.assertEqual(floor_cost(s, [(0, x0, 99, x1, 0, 99, 7)], (1, 1, 3)), 7 if meets else 1, (x0, x1))
        # In a corner alone.
        for x, z in product((3, 4, 8, 9), repeat=2):
            meets = x in (4, 8) and z in (4, 8)
            self.assertEqual(floor_cost(s, [(x, z, x, z, 6, 6, 7)], (1, 1, 3)), 7 if meets else 1, (x, z))

    def test_areas_and_heights(self):
        s = made(level=2)
        for y0, y1, meets in ((0, 5, False), (0, 6, True), (6, 6, True), (6, 9, True), (7, 9, False), (-9, 99, True)):
            self.assertEqual(floor_cost(s, [(0, 0, 9, 9, y0, y1, 7)], (1, 1, 3)), 7 if meets else 1, (y0, y1))
        self.assertEqual(floor_cost(s, [(0, 0, 9, 9, -8, -8, 7)], (1, 1, -4)), 7)

    def test_greatest_area(self):
        s = made()
        areas = [(0, 0, 9, 9, 0, 9, 3), (0, 0, 9, 9, 0, 9, 9), (0, 0, 9, 9, 0, 9, 5), (0, 0, 9, 9, 2, 9, 99)]
        for order in (areas, areas[::-1]):
            self.assertEqual(floor_cost(s, order, (1, 1, 1)), 9)
            self.assertEqual(floor_cost(s, order, (1, 1, 2)), 99)
        self.assertEqual(floor_cost(s, [], (1, 1, 1)), 1)
        self.assertEqual(floor_cost(s, [(0, 0, 9, 9, 0, 9, 1)], (1, 1, 1)), 1)
        self.assertEqual(floor_cost(s, [(0, 0, 9, 9, 0, 9, 1000)], (1, 1, 1)), 1000)


class Grounds(unittest.TestCase):

    def test_has(self):
        ground = Ground(made(), {(0, 0): [1, 9], (1, 0): []}, [], 0)
        for place in product(range(-1, 3), range(-1, 2), range(-1, 11)):
            self.assertIs(ground.has(place), place in ((0, 0, 1), (0, 0, 9)), place)

    def test_steps_in_order(self):
        s = made(columns=3, rows=3)
        floors = {(i, k): [1] for i in range(3) for k in range(3)}
        ground = Ground(s, floors, [], 3)
        self.assertEqual(ground.steps((1, 1, 1)), [((2, 1, 1), 2), ((0, 1, 1), 2), ((1, 2, 1), 2), ((1, 0, 1), 2)])
        self.assertEqual(ground.steps((0, 0, 1)), [((1, 0, 1), 2), ((0, 1, 1), 2)])
        self.assertEqual(ground.steps((2, 2, 1)), [((1, 2, 1), 2), ((2, 1, 1), 2)])

    def test_steps_that_are_joined(self):
        floors = {(0, 0): [3], (1, 0): [1, 6], (0, 1): [2, 9]}
        self.assertEqual(Ground(made(), floors, [], 5).steps((0, 0, 3)), [((0, 1, 2), 7)])
        self.assertEqual(Ground(made(step=2), floors, [], 5).steps((0, 0, 3)), [((1, 0, 1), 12), ((0, 1, 2), 7)])
        self.assertEqual(Ground(made(step=0), floors, [], 5).steps((0, 0, 3)), [])
        self.assertEqual(Ground(made(step=2), floors, [], 0).steps((1, 0, 1)), [((0, 0, 3), 2)])

    def test_joined_cost(self):
        ground = Ground(made(), FLOORS, [(5, 1, 6, 2, 0, 9, 7)], 4)
        self.assertEqual(ground.joined_cost((0, 0, 1), (1, 0, 1)), 8)
        self.assertEqual(ground.joined_cost((1, 0, 1), (0, 0, 1)), 8)
        self.assertEqual(ground.joined_cost((1, 1, 2), (1, 0, 1)), 12)
        self.assertEqual(ground.joined_cost((0, 1, 1), (1, 1, 2)), 6)
        for other in ((0, 0, 1), (2, 0, 1), (1, 1, 2)):
            self.assertIsNone(ground.joined_cost((0, 0, 1), other))

    def test_against_the_words(self):
        many = 0
        for seed in range(90):
            told = Told(seed)
            for place in told.places:
                self.assertTrue(told.ground.has(place))
                self.assertEqual(floor_cost(told.s, told.areas, place), told.half(place))
                self.assertEqual(dict(told.ground.steps(place)), told.near[place], seed)
                directions = [DIRECTIONS.index((other[0] - place[0], other[1] - place[1])) for other, _ in told.ground.steps(place)]
                self.assertEqual(directions, sorted(directions))
                for other in told.places:
                    self.assertEqual(told.ground.joined_cost(place, other), told.near[place].get(other))
                many += len(told.near[place])
        self.assertGreater(many, 1000)

    def test_floors_are_not_shared(self):
        floors, areas = {(0, 0): [1], (1, 0): [1]}, [(0, 0, 9, 9, 0, 9, 4)]
        ground = Ground(made(), floors, areas, 1)
        kept = (str(floors), str(areas))
        ground.steps((0, 0, 1)).clear()
        self.assertEqual((str(floors), str(areas)), kept)
        floors[(0, 0)].clear()
        floors.clear()
        areas.clear()
        self.assertEqual(ground.steps((0, 0, 1)), [((1, 0, 1), 8)])


class Ways(unittest.TestCase):

    def test_way_cost(self):
        ground = example()
        self.assertIsNone(way_cost(ground, []))
        self.assertEqual(way_cost(ground, [(1, 1, 2)]), 0)
        for place in ((1, 1, 1), (3, 0, 1), (-1, 0, 1), (9, 9, 9)):
            self.assertIsNone(way_cost(ground, [place]))
            self.assertIsNone(way_cost(ground, [(0, 0, 1), place]))
            self.assertIsNone(way_cost(ground, [place, (0, 0, 1)]))
        self.assertIsNone(way_cost(ground, [(0, 0, 1), (0, 0, 1)]))
        self.assertIsNone(way_cost(ground, [(0, 0, 1), (2, 0, 1)]))
        self.assertIsNone(way_cost(ground, [(0, 0, 1), (1, 0, 1), (1, 1, 2), (2, 0, 1)]))
        # There and back again.
        self.assertEqual(way_cost(ground, [(0, 0, 1), (0, 1, 1), (0, 0, 1)]), 4)
        self.assertEqual(way_cost(ground, [(0, 1, 1), (1, 1, 2), (0, 1, 1), (0, 0, 1)]), 8)

    def test_to_itself(self):
        for place in ((0, 0, 1), (1, 1, 2)):
            paper = cheapest_floors(example(), place, place)
            self.assertEqual(paper, ("price", 0, [place], []))
            self.assertIs(check_price(example(), place, place, paper), True)

    def test_no_way(self):
        ground = Ground(made(), {(0, 0): [1], (2, 0): [1]}, [], 0)
        self.assertIsNone(cheapest_floors(ground, (0, 0, 1), (2, 0, 1)))

    def test_order_of_the_turns(self):
        s = made(columns=3, rows=3)
        ground = Ground(s, {(i, k): [1] for i in range(3) for k in range(3)}, [], 0)
        # At the cost 2 the row above comes first, then the cell on the left, although all have one cost.
        paper = cheapest_floors(ground, (1, 1, 1), (2, 1, 1))
        self.assertEqual(paper, ("price", 2, [(1, 1, 1), (2, 1, 1)], [(1, 0, 1, 2), (0, 1, 1, 2), (1, 1, 1, 0)]))
        paper = cheapest_floors(ground, (1, 1, 1), (1, 2, 1))
        self.assertEqual([mark[:2] for mark in paper[3]], [(1, 0), (0, 1), (1, 1), (2, 1)])
        # The corner is reached from the floor that was settled first.
        self.assertEqual(cheapest_floors(ground, (1, 1, 1), (0, 0, 1))[2], [(1, 1, 1), (1, 0, 1), (0, 0, 1)])
        self.assertEqual(cheapest_floors(ground, (1, 1, 1), (2, 2, 1))[2], [(1, 1, 1), (2, 1, 1), (2, 2, 1)])
        self.assertEqual(cheapest_floors(ground, (0, 0, 1), (2, 2, 1))[2],
                         [(0, 0, 1), (1, 0, 1), (2, 0, 1), (2, 1, 1), (2, 2, 1)])

    def test_floor_that_becomes_cheaper(self):
        # What it would have cost comes up again in the search, behind the floors that go on from it.
        floors = {**FLOORS, **{(i, 0): [1] for i in range(3, 9)}}
        ground = Ground(made(columns=9), floors, [(5, 1, 6, 2, 0, 9, 7)], 1)
        paper = cheapest_floors(ground, (0, 0, 1), (8, 0, 1))
        self.assertEqual(paper[1:3], (22, [(0, 0, 1), (0, 1, 1), (1, 1, 2)] + [(2, 1, 1)] + [(i, 0, 1) for i in range(2, 9)]))
        self.assertIn((2, 0, 1, 10), paper[3])
        self.assertIs(check_price(ground, (0, 0, 1), (8, 0, 1), paper), True)

    def test_two_levels_of_a_cell(self):
        # From the middle above down on the left and up on the right, to two floors of the cell below it.
        s = made(step=2)
        floors = {(1, 0): [4], (0, 0): [3], (0, 1): [2], (2, 0): [5], (2, 1): [6], (1, 1): [1, 7]}
        for climb in (0, 1):
            ground = Ground(s, floors, [], climb)
            low = cheapest_floors(ground, (1, 0, 4), (1, 1, 1))
            high = cheapest_floors(ground, (1, 0, 4), (1, 1, 7))
            self.assertEqual([low[1], high[1]], [6 + 3 * climb] * 2)
            self.assertEqual([mark[:3] for mark in low[3]], [(0, 0, 3), (1, 0, 4), (2, 0, 5), (0, 1, 2), (2, 1, 6)])
            self.assertEqual([mark[:3] for mark in high[3]],
                             [(0, 0, 3), (1, 0, 4), (2, 0, 5), (0, 1, 2), (1, 1, 1), (2, 1, 6)])
        # The upper one is settled first, but stands behind the lower one in the paper.
        floors[(1, 2)] = [1]
        ground = Ground(made(step=2, rows=3), floors, [(0, 0, 1, 1, 0, 9, 3)], 0)
        marks = cheapest_floors(ground, (1, 0, 4), (1, 2, 1))[3]
        self.assertEqual([mark for mark in marks if mark[:2] == (1, 1)], [(1, 1, 1, 10), (1, 1, 7, 6)])

    def test_levels_come_last(self):
        s = made(columns=3, rows=1, step=2)
        floors = {(0, 0): [3, 9], (1, 0): [1, 7], (2, 0): [1, 7]}
        ground = Ground(s, floors, [], 0)
        self.assertEqual(cheapest_floors(ground, (2, 0, 7), (0, 0, 9)), ("price", 4, [(2, 0, 7), (1, 0, 7), (0, 0, 9)],
                                                                         [(1, 0, 7, 2), (2, 0, 7, 0)]))

    def test_climb(self):
        s = made(columns=2, rows=2)
        floors = {(0, 0): [1], (1, 0): [2], (0, 1): [1], (1, 1): [1]}
        for climb, paid in ((0, 4), (1, 6), (1000, 2004)):
            paper = cheapest_floors(Ground(s, floors, [], climb), (0, 0, 1), (1, 0, 2))
            self.assertEqual(paper[1], 2 + climb if climb else 2)
            way = [(0, 0, 1), (1, 0, 2), (1, 1, 1)]
            self.assertEqual(way_cost(Ground(s, floors, [], climb), way), paid)

    def test_against_the_words(self):
        found = none = 0
        for seed in range(150):
            told = Told(seed)
            chance = random.Random(seed)
            for _ in range(3 if told.places else 0):
                start, goal = chance.choice(told.places), chance.choice(told.places)
                paper = cheapest_floors(told.ground, start, goal)
                self.assertEqual(paper, told.search(start, goal), (seed, start, goal))
                least = told.least(start)
                if paper is None:
                    self.assertNotIn(goal, least)
                    none += 1
                    continue
                self.assertEqual(paper[1], least[goal])
                self.assertEqual(way_cost(told.ground, paper[2]), paper[1])
                for i, k, level, number in paper[3]:
                    self.assertEqual(least[(i, k, level)], number)
                self.assertIs(check_price(told.ground, start, goal, paper), True)
                found += len(paper[2]) > 2
        self.assertGreater(found, 100)
        self.assertGreater(none, 20)

    def test_nothing_is_shared(self):
        ground = example()
        one, other = (cheapest_floors(ground, (0, 0, 1), (2, 0, 1)) for _ in "ab")
        one[2].clear()
        one[3].clear()
        kept = repr(other)
        self.assertIs(check_price(ground, (0, 0, 1), (2, 0, 1), other), True)
        way_cost(ground, other[2])
        self.assertEqual(repr(other), kept)
        self.assertEqual(cheapest_floors(ground, (0, 0, 1), (2, 0, 1)), other)


class Prices(unittest.TestCase):

    def setUp(self):
        self.ground = example()
        self.start, self.goal = (0, 0, 1), (2, 0, 1)
        _, self.paid, self.way, self.marks = cheapest_floors(self.ground, self.start, self.goal)

    def taken(self, paid=None, way=None, marks=None, start=None, goal=None):
        paper = ("price", self.paid if paid is None else paid, self.way if way is None else way,
                 self.marks if marks is None else marks)
        said = check_price(self.ground, start or self.start, goal or self.goal, paper)
        self.assertIs(type(said), bool)
        return said

    def test_right(self):
        self.assertTrue(self.taken())
        self.assertTrue(self.taken(marks=self.marks[::-1]))

    def test_other_cost(self):
        for paid in (0, 9, 11, -10, 10 ** 9):
            self.assertFalse(self.taken(paid=paid))

    def test_other_way(self):
        for way in ([], self.way[1:], self.way[:-1], self.way[::-1], self.way[:2] + self.way[3:], self.way + self.way[-1:],
                    [(0, 0, 1), (1, 0, 1), (2, 0, 1)], self.way + [(2, 1, 1), (2, 0, 1)], [(9, 9, 9)]):
            self.assertFalse(self.taken(way=way), way)
            cost = way_cost(self.ground, way)
            if cost is not None:
                self.assertFalse(self.taken(way=way, paid=cost), way)
        self.assertFalse(self.taken(start=(0, 1, 1)))
        self.assertFalse(self.taken(goal=(2, 1, 1)))

    def test_other_way_with_the_same_cost(self):
        ground = Ground(made(), {cell: [1] for cell in FLOORS}, [], 0)
        paper = cheapest_floors(ground, (0, 0, 1), (1, 1, 1))
        for way in ([(0, 0, 1), (1, 0, 1), (1, 1, 1)], [(0, 0, 1), (0, 1, 1), (1, 1, 1)]):
            self.assertIs(check_price(ground, (0, 0, 1), (1, 1, 1), ("price", 4, way, paper[3])), True)

    def test_marks_left_out(self):
        for at in range(len(self.marks)):
            self.assertFalse(self.taken(marks=self.marks[:at] + self.marks[at + 1:]), at)
        self.assertFalse(self.taken(marks=[]))

    def test_marks_added(self):
        self.assertTrue(self.taken(marks=self.marks + [(2, 0, 1, 10)]))
        for number in (9, 11, -1):
            self.assertFalse(self.taken(marks=self.marks + [(2, 0, 1, number)]), number)
        for place in ((9, 9, 9), (1, 1, 1), (3, 0, 1)):
            self.assertFalse(self.taken(marks=self.marks + [place + (0,)]), place)

    def test_marks_doubled(self):
        for mark in self.marks:
            self.assertFalse(self.taken(marks=self.marks + [mark]))
            self.assertFalse(self.taken(marks=[mark[:3] + (mark[3] - 1,)] + self.marks))

    def test_marks_raised_and_lowered(self):
        right = []
        for at, (i, k, level, number) in enumerate(self.marks):
            for more in range(-9, 10):
                marks = self.marks[:at] + [(i, k, level, number + more)] + self.marks[at + 1:]
                said = self.taken(marks=marks)
                self.assertIs(said, told_takes(self.ground, self.start, self.goal, ("price", self.paid, self.way, marks)))
                if said:
                    right.append((i, k, number + more))
        # Only the costly floor has room: steps of 8 lead to it and from it, to the mark 8 and to what is paid.
        self.assertEqual(right, [(0, 0, 0)] + [(1, 0, number) for number in range(2, 9)] + [(0, 1, 2), (1, 1, 5), (2, 1, 8)])

    def test_all_marks_lowered(self):
        for less in (0, 1, 5):
            marks = [mark[:3] + (mark[3] - less,) for mark in self.marks]
            self.assertIs(self.taken(marks=marks), less == 0)
        # A way to itself asks for no mark of the start.
        place = (1, 1, 2)
        self.assertTrue(self.taken(0, [place], [], place, place))
        self.assertTrue(self.taken(0, [place], [place + (0,)], place, place))
        self.assertFalse(self.taken(0, [place], [place + (-1,)], place, place))
        self.assertFalse(self.taken(0, [place], [place + (1,)], place, place))

    def test_start_below_0(self):
        ground = Ground(made(columns=2, rows=1), {(0, 0): [1], (1, 0): [1]}, [], 0)
        way = [(0, 0, 1), (1, 0, 1)]
        for number in (-9, -1, 0, 1, 2):
            said = check_price(ground, way[0], way[1], ("price", 2, way, [(0, 0, 1, number)]))
            self.assertIs(said, number == 0)
        floors = {(n, 0): [1] for n in range(3)}
        ground = Ground(made(rows=1), floors, [(0, 0, 1, 1, 0, 9, 5)], 0)
        way = [(1, 0, 1), (0, 0, 1)]
        self.assertEqual(way_cost(ground, way), 6)
        # Numbers below 0 are no fault of their own: a mark only must not be too high for a step.
        self.assertIs(check_price(ground, way[0], way[1], ("price", 6, way, [(1, 0, 1, 0), (2, 0, 1, -9)])), False)
        self.assertIs(check_price(ground, way[0], way[1], ("price", 6, way, [(1, 0, 1, 0), (2, 0, 1, -2)])), True)
        self.assertIs(check_price(ground, way[0], way[1], ("price", 6, way, [(1, 0, 1, 0), (2, 0, 1, -3)])), False)

    def test_changed_papers(self):
        seen = {True: 0, False: 0}
        for seed in range(150):
            told = Told(seed)
            chance = random.Random(seed)
            for _ in range(3 if told.places else 0):
                start, goal = chance.choice(told.places), chance.choice(told.places)
                paper = cheapest_floors(told.ground, start, goal)
                for _ in range(6 if paper else 0):
                    changed = changed_price(chance, told, paper)
                    said = check_price(told.ground, start, goal, changed)
                    self.assertIs(said, told.takes(start, goal, changed), (seed, changed))
                    if said:
                        self.assertEqual(told.least(start)[goal], changed[1])
                    seen[said] += 1
        self.assertGreater(min(seen.values()), 150)


def told_takes(ground, start, goal, paper):
    """Point 19.5 for any ground, by its steps."""
    told = Told.__new__(Told)
    told.near = {(i, k, level): dict(ground.steps((i, k, level))) for (i, k), levels in FLOORS.items() for level in levels}
    return told.takes(start, goal, paper)


def changed_price(chance, told, paper):
    _, paid, way, marks = paper
    way, marks = list(way), list(marks)
    kind = chance.randrange(8)
    if kind == 0:
        paid += chance.choice((-2, -1, 1, 2))
    elif kind == 1:
        spot = chance.randrange(len(way))
        way[spot:spot + 1] = chance.choice(([], [chance.choice(told.places)], [way[spot]] * 2))
    elif kind == 2 and marks:
        del marks[chance.randrange(len(marks))]
    elif kind == 3:
        marks.append(chance.choice(told.places) + (chance.choice((0, paid, paid - 1, chance.randint(-2, paid + 1))),))
    elif kind == 4:
        marks.append(way[-1] + (paid + chance.choice((0, 0, 1, -1)),))
    elif kind == 5 and marks:
        marks.append(chance.choice(marks))
    elif marks:
        spot = chance.randrange(len(marks))
        marks[spot] = marks[spot][:3] + (marks[spot][3] + chance.choice((-2, -1, 1, 2)),)
    chance.shuffle(marks)
    return ("price", paid, way, marks)


if __name__ == "__main__":
    unittest.main()
