"""Points 9.1 to 9.3 and 0.9: ways through plates, with the fewest portals or the least cost."""

from itertools import product
import random
import unittest

from footpath.search import cheapest, cost, fewest, plates_of, reached
from tests.corridors import corridor
from tests.reference import some_world, whole_mesh


def some_mesh(seed):
    """Plates and portals at any place, with several between two plates, and not all connected."""
    chance = random.Random(seed)
    many = chance.randint(1, 7)
    portals = []
    for _ in range(chance.randint(0, 10) if many > 1 else 0):
        p, q = chance.sample(range(many), 2)
        x, z, long = chance.randint(0, 6), chance.randint(0, 6), chance.randint(1, 3)
        portals.append(("portal", p, q, x, z) + chance.choice(((x + long, z), (x, z + long))))
    return [("plate", 0, 0, 0, 0, (1,))] * many, portals


def joined_by(*pairs):
    """A mesh of single cells one beside the other, with portals between pairs of them."""
    many = 1 + max(max(pair) for pair in pairs)
    plates = [("plate", at, 0, at, 0, (1,)) for at in range(many)]
    return plates, [("portal", p, q, 4 * at, 0, 4 * at, 4) for at, (p, q) in enumerate(pairs)]


def told_fewest(mesh, start):
    """Point 9.2: for each plate the way by which it is found, round by round."""
    portals = mesh[1]
    ways = {start: []}
    rounds = [[start]]
    while rounds[-1]:
        rounds.append([])
        for plate in rounds[-2]:
            for index in range(len(portals)):
                if plate in portals[index][1:3]:
                    other = sum(portals[index][1:3]) - plate
                    if other not in ways:
                        ways[other] = ways[plate] + [index]
                        rounds[-1].append(other)
    return ways


def all_ways(mesh, start, goal, longest):
    """All ways with at most so many portals."""
    portals = mesh[1]
    found = [[]] if start == goal else []
    ways = [(start, [])]
    for _ in range(longest):
        further = []
        for plate, way in ways:
            for index, portal in enumerate(portals):
                if plate in portal[1:3]:
                    further.append((sum(portal[1:3]) - plate, way + [index]))
        ways = further
        found += [way for plate, way in ways if plate == goal]
    return found


def told_cost(mesh, start, goal, way):
    """Point 9.3, with half lengths."""
    x, z, paid = 2 * start[0], 2 * start[1], 0
    for index in way:
        _, _, _, x0, z0, x1, z1 = mesh[1][index]
        paid += abs(x - (x0 + x1)) + abs(z - (z0 + z1))
        x, z = x0 + x1, z0 + z1
    return paid + abs(2 * goal[0] - x) + abs(2 * goal[1] - z)


class Examples(unittest.TestCase):

    def test_examples(self):
        plates = [("plate", 0, 0, 0, 0, (1,)), ("plate", 1, 0, 1, 0, (1,)), ("plate", 2, 0, 2, 0, (1,))]
        mesh = (plates, [("portal", 0, 1, 4, 0, 4, 4), ("portal", 1, 2, 8, 0, 8, 4)])
        self.assertEqual([fewest(mesh, 0, 2), plates_of(mesh, 0, [0, 1])], [[0, 1], [0, 1, 2]])
        self.assertEqual([reached(mesh, 1), fewest(mesh, 1, 1)], [[0, 1, 2], []])
        self.assertEqual(cost(mesh, (1, 2, 0), (9, 2, 2), [0, 1]), 16)
        self.assertEqual(cheapest(mesh, (1, 2, 0), (9, 2, 2)), (16, [0, 1]))


class Reached(unittest.TestCase):

    def test_alone(self):
        self.assertEqual(reached(([("plate", 0, 0, 0, 0, (1,))], []), 0), [0])

    def test_both_directions_of_portals(self):
        mesh = joined_by((1, 0), (1, 2), (4, 2))
        for start in (0, 1, 2, 4):
            self.assertEqual(reached(mesh, start), [0, 1, 2, 4])
        self.assertEqual(reached(mesh, 3), [3])

    def test_ascending(self):
        self.assertEqual(reached(joined_by((3, 5), (5, 0), (0, 4), (1, 2)), 5), [0, 3, 4, 5])

    def test_against_the_second_way(self):
        for seed in range(200):
            mesh = some_mesh(seed)
            for start in range(len(mesh[0])):
                self.assertEqual(reached(mesh, start), sorted(told_fewest(mesh, start)))


class Fewest(unittest.TestCase):

    def test_to_itself(self):
        mesh = joined_by((0, 1), (0, 1))
        self.assertEqual([fewest(mesh, 0, 0), fewest(mesh, 1, 1)], [[], []])

    def test_none(self):
        mesh = joined_by((0, 1), (2, 3))
        self.assertEqual([fewest(mesh, 0, 2), fewest(mesh, 3, 1)], [None, None])
        self.assertEqual([fewest(mesh, 0, 1), fewest(mesh, 3, 2)], [[0], [1]])

    def test_several_portals_between_two_plates(self):
        mesh = joined_by((1, 2), (0, 1), (2, 1), (1, 0), (0, 1))
        self.assertEqual(fewest(mesh, 0, 2), [1, 0])
        self.assertEqual(fewest(mesh, 2, 0), [0, 1])

    def test_fewer_before_nearer(self):
        mesh = joined_by((0, 1), (1, 2), (2, 3), (0, 4), (4, 3))
        self.assertEqual(fewest(mesh, 0, 3), [3, 4])

    def test_the_order_of_finding_counts(self):
        # 3 and 2 are found in the round before the goal, 3 first: so its portal is gone through first.
        mesh = joined_by((0, 3), (0, 2), (2, 4), (3, 4))
        self.assertEqual(fewest(mesh, 0, 4), [0, 3])
        # 5 is found by 3, and 1 by 2, in the order of 3 and 2.
        mesh = joined_by((1, 6), (5, 6), (0, 3), (0, 2), (2, 1), (3, 5))
        self.assertEqual(fewest(mesh, 0, 6), [2, 5, 1])

    def test_against_the_second_way(self):
        for seed in range(200):
            mesh = some_mesh(seed)
            for start in range(len(mesh[0])):
                ways = told_fewest(mesh, start)
                for goal in range(len(mesh[0])):
                    found = fewest(mesh, start, goal)
                    self.assertEqual(found, ways.get(goal))
                    if found:
                        self.assertEqual(plates_of(mesh, start, found)[-1], goal)
                        self.assertEqual(all_ways(mesh, start, goal, min(len(found) - 1, 4)), [])

    def test_ways_of_worlds_join_what_is_connected(self):
        for seed in range(60):
            s, soup, boxes = some_world(seed)
            mesh, floors, joined = whole_mesh(s, soup, boxes)
            owner = {}
            for at, (_, i0, k0, i1, k1, levels) in enumerate(mesh[0]):
                cells = [(i, k) for k in range(k0, k1 + 1) for i in range(i0, i1 + 1)]
                owner.update({(i, k, level): at for (i, k), level in zip(cells, levels)})
            for start in sorted(floors)[::5]:
                connected = {start}
                while True:
                    more = {f for pair in joined if connected & set(pair) for f in pair} - connected
                    if not more:
                        break
                    connected |= more
                self.assertEqual(reached(mesh, owner[start]), sorted({owner[floor] for floor in connected}))


class Plates(unittest.TestCase):

    def test_ways(self):
        mesh = joined_by((0, 1), (1, 2), (2, 0), (1, 0))
        told = {(0, ()): [0], (2, ()): [2], (0, (0, 1)): [0, 1, 2], (2, (1, 0)): [2, 1, 0], (0, (0, 1, 2, 3)): [0, 1, 2, 0, 1]}
        for (start, way), plates in told.items():
            self.assertEqual(plates_of(mesh, start, list(way)), plates)

    def test_back_through_the_same_portal_is_a_way(self):
        self.assertEqual(plates_of(joined_by((0, 1)), 0, [0, 0, 0]), [0, 1, 0, 1])

    def test_no_ways(self):
        mesh = joined_by((0, 1), (1, 2), (3, 4))
        for start, way in ((0, [1]), (0, [0, 2]), (0, [1, 0]), (2, [0]), (0, [3]), (0, [-1]), (3, [-1]), (0, [0, 1, 10 ** 30]), (1, [-3])):
            self.assertIsNone(plates_of(mesh, start, way))

    def test_against_the_second_way(self):
        for seed in range(60):
            mesh = some_mesh(seed)
            many = len(mesh[1])
            for way in product(range(-1, many + 1), repeat=2):
                plates = [0]
                for index in way:
                    if plates is not None and 0 <= index < many and plates[-1] in mesh[1][index][1:3]:
                        plates = plates + [sum(mesh[1][index][1:3]) - plates[-1]]
                    else:
                        plates = None
                self.assertEqual(plates_of(mesh, 0, list(way)), plates)


class Costs(unittest.TestCase):

    def test_without_portals(self):
        mesh = joined_by((0, 1))
        self.assertEqual(cost(mesh, (1, 2, 0), (1, 2, 0), []), 0)
        self.assertEqual(cost(mesh, (1, 2, 0), (4, 0, 0), []), 10)

    def test_middles_of_odd_portals(self):
        mesh = ([], [("portal", 0, 1, 0, 0, 3, 0), ("portal", 1, 0, 3, 0, 3, 5)])
        self.assertEqual(cost(mesh, (0, 0, 0), (0, 0, 1), [0]), 6)
        self.assertEqual(cost(mesh, (0, 0, 0), (0, 0, 0), [0, 1]), 3 + 3 + 5 + 6 + 5)

    def test_against_the_second_way(self):
        for seed in range(100):
            mesh = some_mesh(seed)
            chance = random.Random(seed)
            for _ in range(5):
                start, goal = ((chance.randint(-4, 9), chance.randint(-4, 9), 0) for _ in range(2))
                way = [chance.randrange(len(mesh[1])) for _ in range(chance.randint(0, 4))] if mesh[1] else []
                self.assertEqual(cost(mesh, start, goal, way), told_cost(mesh, start, goal, way))


class Cheapest(unittest.TestCase):

    def test_none(self):
        mesh = joined_by((0, 1), (2, 3))
        self.assertIsNone(cheapest(mesh, (0, 0, 0), (0, 0, 3)))
        self.assertIsNone(cheapest(([("plate", 0, 0, 0, 0, (1,))] * 2, []), (0, 0, 0), (0, 0, 1)))

    def test_in_one_plate(self):
        mesh = joined_by((0, 1), (0, 1), (0, 1))
        self.assertEqual(cheapest(mesh, (1, 2, 0), (3, 7, 0)), (14, []))
        self.assertEqual(cheapest(mesh, (1, 2, 0), (1, 2, 0)), (0, []))

    def test_more_portals_may_be_cheaper(self):
        plates = [("plate", 0, 0, 0, 0, (1,))] * 3
        mesh = (plates, [("portal", 0, 2, 90, 0, 90, 3), ("portal", 0, 1, 10, 0, 10, 3), ("portal", 1, 2, 20, 0, 20, 3)])
        self.assertEqual(fewest(mesh, 0, 2), [0])
        self.assertEqual(cheapest(mesh, (0, 1, 0), (30, 1, 2)), (62, [1, 2]))

    def test_one_of_several_portals(self):
        plates = [("plate", 0, 0, 0, 0, (1,))] * 2
        mesh = (plates, [("portal", 0, 1, 10, 3 * n, 10, 3 * n + 3) for n in range(5)])
        for n in range(5):
            self.assertEqual(cheapest(mesh, (0, 3 * n + 1, 0), (20, 3 * n + 2, 1)), (42, [n]))

    def holds(self, mesh, start, goal, longest):
        """The way has the cost, does not turn back, and no way is cheaper."""
        found = cheapest(mesh, start, goal)
        ways = all_ways(mesh, start[2], goal[2], longest)
        if found is None:
            self.assertEqual(ways, [])
            self.assertNotIn(goal[2], reached(mesh, start[2]))
            return
        self.assertIs(type(found), tuple)
        paid, way = found
        self.assertEqual(plates_of(mesh, start[2], way)[-1], goal[2])
        self.assertEqual(told_cost(mesh, start, goal, way), paid)
        self.assertFalse(any(one == other for one, other in zip(way, way[1:])), way)
        for other in ways:
            self.assertLessEqual(paid, told_cost(mesh, start, goal, other))

    def test_against_all_ways(self):
        for seed in range(250):
            mesh = some_mesh(seed)
            chance = random.Random(seed)
            for _ in range(3):
                start, goal = ((chance.randint(-2, 8), chance.randint(-2, 8), chance.randrange(len(mesh[0]))) for _ in range(2))
                self.holds(mesh, start, goal, 4)

    def test_corridors(self):
        for seed in range(150):
            mesh, start, goal, _ = corridor(seed, seed % 9)
            self.holds(mesh, start, goal, 4)


class Arguments(unittest.TestCase):

    def test_nothing_is_changed_or_shared(self):
        mesh = joined_by((0, 1), (1, 2), (0, 2))
        given = (list(mesh[0]), list(mesh[1]))
        way = [0, 1]
        for _ in range(2):
            results = [reached(mesh, 0), fewest(mesh, 0, 2), plates_of(mesh, 0, way), cheapest(mesh, (0, 0, 0), (9, 0, 2))[1]]
            self.assertEqual(results[:3], [[0, 1, 2], [2], [0, 1, 2]])
            cost(mesh, (0, 0, 0), (9, 0, 2), way)
            for one in results:
                one.append("mine")
        self.assertEqual((mesh, way), (given, [0, 1]))


if __name__ == "__main__":
    unittest.main()
