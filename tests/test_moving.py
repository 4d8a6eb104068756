"""Points 13.1 to 13.5: positions on strings, and journeys through worlds that change."""

from fractions import Fraction
import random
import unittest

from footpath.errors import PlaceError
from footpath.moving import Journey, advanced, exact_point
from footpath.plates import owners
from footpath.settings import Settings
from footpath.world import World
from tests.reference import some_box, some_world
from tests.trails import as_number, at_number, some_garden, stands_free
from tests.walkers import Twin, lengths

GROUND = [((-9, 0, -9), (999, 0, -9), (-9, 0, 999))]
FIELDS = ("status", "floor", "goal", "aim", "point", "string", "position", "ticks", "plans", "seen", "pieces", "speed")


def made(**changes):
    good = dict(columns=5, rows=2, cell=4, level=1, width=0, height=5, step=1, slope=(1, 2), tile=8)
    return Settings(**{**good, **changes})


def wall(i):
    """A box that stands in both cells of a column of a grid of two rows."""
    return (4 * i + 1, 0, 1, 4 * i + 3, 9, 7, False)


def some_string(chance):
    points = [(chance.randint(-9, 9), chance.randint(-9, 9))]
    for _ in range(chance.randint(0, 5)):
        x, z = points[-1]
        points.append((x + chance.randint(1, 9) * chance.choice((-1, 1)), z + chance.randint(-9, 9)))
    return points


class Advanced(unittest.TestCase):

    def test_examples(self):
        points = [(0, 0), (9, 3), (9, 8)]
        self.assertEqual(advanced(points, (0, 0, 1), 4), (0, 4, 9))
        self.assertEqual(advanced(points, (0, 8, 9), 4), (1, 3, 5))
        self.assertEqual(exact_point([(0, 0), (9, 3)], (0, 4, 9)), (36, 12, 9))

    def test_one_point(self):
        for speed in (1, 99):
            self.assertEqual(advanced([(3, 4)], (0, 0, 1), speed), (0, 0, 1))
        self.assertEqual(exact_point([(3, 4)], (0, 0, 1)), (3, 4, 1))

    def test_at_points_and_over_them(self):
        points = [(0, 0), (0, 4), (3, 4), (9, -2)]
        told = [(0, 1, 4), (0, 2, 4), (0, 3, 4), (1, 0, 1), (1, 1, 3), (1, 2, 3), (2, 0, 1), (2, 1, 6)]
        for speed, position in enumerate(told):
            self.assertEqual(advanced(points, (0, 0, 1), speed + 1), position)
        for speed in (13, 14, 999):
            self.assertEqual(advanced(points, (0, 0, 1), speed), (3, 0, 1))
            self.assertEqual(advanced(points, (3, 0, 1), speed), (3, 0, 1))
        self.assertEqual(advanced(points, (1, 2, 3), 1), (2, 0, 1))
        self.assertEqual(advanced(points, (2, 5, 6), 1), (3, 0, 1))

    def test_greater_difference_counts(self):
        self.assertEqual(advanced([(0, 0), (-7, 2)], (0, 0, 1), 2), (0, 2, 7))
        self.assertEqual(advanced([(0, 0), (2, -7)], (0, 0, 1), 2), (0, 2, 7))
        self.assertEqual(advanced([(0, 0), (-5, 5)], (0, 3, 5), 1), (0, 4, 5))

    def test_against_the_lengths(self):
        for seed in range(300):
            chance = random.Random(seed)
            points = some_string(chance)
            parts = lengths(points)
            position, gone = (0, 0, 1), 0
            for speed in [chance.randint(1, 8) for _ in range(12)]:
                position = advanced(points, position, speed)
                gone = min(gone + speed, sum(parts))
                at = max(n for n in range(len(points)) if sum(parts[:n]) <= gone)
                left = gone - sum(parts[:at])
                self.assertEqual(position, (at, left, parts[at]) if left else (at, 0, 1), seed)
                x, z, den = exact_point(points, position)
                self.assertEqual(den, position[2])
                self.assertEqual((Fraction(x, den), Fraction(z, den)), at_number(points, as_number(position)))

    def test_speeds_add_up(self):
        points = [(0, 0), (7, 3), (7, 9), (-4, 5)]
        for one in range(1, 12):
            for other in range(1, 12):
                twice = advanced(points, advanced(points, (0, 0, 1), one), other)
                self.assertEqual(twice, advanced(points, (0, 0, 1), one + other))


class Journeys(unittest.TestCase):

    def shown(self, journey, **wanted):
        for name, value in wanted.items():
            self.assertEqual(getattr(journey, name), value, name)

    def test_example(self):
        s = Settings(columns=4, rows=4, cell=10, level=5, width=0, height=20, step=5, slope=(1, 2))
        j = Journey(World(s, [((0, 0, 0), (0, 0, 90), (90, 0, 0))]), (5, 0, 5), (35, 0, 15), 12)
        self.assertEqual([j.status, j.string, j.tick(), j.point, j.floor, j.tick(), j.tick(), j.point, j.plans],
                         ["walking", [(5, 5), (35, 15)], "walking", (510, 270, 30), (1, 0, 1), "walking", "arrived",
                          (35, 15, 1), 1])

    def test_beginning(self):
        world = World(made(), GROUND)
        journey = Journey(world, (1, 0, 2), (18, 9, 2), 3)
        self.shown(journey, speed=3, status="walking", floor=(0, 0, 1), goal=(4, 0, 1), aim=(18, 2), point=(1, 2, 1),
                   string=[(1, 2), (18, 2)], position=(0, 0, 1), ticks=0, plans=1, seen=0)
        self.assertEqual([piece[:3] for piece in journey.pieces], [(i, 0, 1) for i in range(5)])

    def test_nearest_floors_and_places(self):
        world = World(made(), GROUND)
        journey = Journey(world, (-50, 99, 70), (70, -99, -50), 3)
        self.shown(journey, floor=(0, 1, 1), goal=(4, 0, 1), aim=(20, 0), point=(0, 8, 1))
        number = world.put((17, 0, 1, 19, 9, 2, False))
        self.shown(Journey(world, (-50, 99, 70), (18, 0, 1), 3), goal=(3, 0, 1), aim=(16, 1), seen=1)
        world.take(number)
        self.shown(Journey(world, (-50, 99, 70), (18, 0, 1), 3), goal=(4, 0, 1), aim=(18, 1), seen=2, plans=1)

    def test_errors(self):
        world, empty = World(made(), GROUND), World(made(), [])
        for speed in (0, -1, -99):
            for where in (world, empty):
                with self.assertRaises(PlaceError) as caught:
                    Journey(where, (1, 0, 1), (9, 0, 1), speed)
                self.assertEqual(caught.exception.name, "speed")
        with self.assertRaises(PlaceError) as caught:
            Journey(empty, (1, 0, 1), (9, 0, 1), 1)
        self.assertEqual(caught.exception.name, "floor")

    def test_each_tick(self):
        journey = Journey(World(made(), GROUND), (1, 0, 2), (9, 0, 6), 1)
        for done in range(1, 8):
            self.assertEqual(journey.tick(), "walking")
            self.shown(journey, position=(0, done, 8), point=(8 * (1 + done), 16 + 4 * done, 8), ticks=done)
            # On the side between two cells, the walker stands on the floor that it leaves.
            self.assertEqual(journey.floor, (0, 0, 1) if done <= 3 else (1, 0, 1) if done == 4 else (1, 1, 1))
        self.assertEqual(journey.tick(), "arrived")
        self.shown(journey, position=(1, 0, 1), point=(9, 6, 1), floor=(2, 1, 1), ticks=8, plans=1)

    def test_fast_walker(self):
        for speed in (17, 18, 10 ** 6):
            journey = Journey(World(made(), GROUND), (1, 0, 2), (18, 0, 2), speed)
            self.assertEqual(journey.tick(), "arrived")
            self.shown(journey, position=(1, 0, 1), point=(18, 2, 1), floor=(4, 0, 1), ticks=1, plans=1)

    def test_floor_of_the_goal(self):
        # The paper ends in the cell from which the string comes, but the walker stands on its goal.
        journey = Journey(World(made(), GROUND), (1, 0, 2), (8, 0, 2), 99)
        self.shown(journey, goal=(1, 0, 1))
        journey = Journey(World(made(), GROUND), (15, 0, 2), (8, 0, 2), 99)
        self.shown(journey, goal=(1, 0, 1))
        self.assertEqual(journey.pieces[-1][:3], (2, 0, 1))
        journey.tick()
        self.shown(journey, status="arrived", floor=(1, 0, 1))

    def test_arrived_at_once(self):
        world = World(made(), GROUND)
        journey = Journey(world, (5, 0, 2), (5, 9, 2), 3)
        self.shown(journey, status="arrived", string=[(5, 2)], position=(0, 0, 1), plans=1, floor=(1, 0, 1))
        self.assertEqual([piece[:3] for piece in journey.pieces], [(1, 0, 1)])
        world.put(wall(1))
        self.assertEqual([journey.tick(), journey.tick()], ["arrived", "arrived"])
        self.shown(journey, ticks=2, plans=1, seen=0, floor=(1, 0, 1), point=(5, 2, 1))

    def test_arrived_at_once_keeps_the_floor(self):
        # The start's floor is the right one of the cells that have the point, the goal's the left one.
        s = made(level=2, height=10, step=2)
        world = World(s, GROUND + [((5, 2, 1), (6, 2, 1), (5, 2, 2))])
        journey = Journey(world, (4, 4, 2), (4, 0, 2), 3)
        self.shown(journey, floor=(1, 0, 2), goal=(0, 0, 1), status="arrived", string=[(4, 2)])

    def test_arrived_stays(self):
        world = World(made(), GROUND)
        journey = Journey(world, (1, 0, 2), (18, 0, 2), 99)
        journey.tick()
        kept = [getattr(journey, name) for name in FIELDS if name != "ticks"]
        world.put(wall(4))
        for ticks in (2, 3, 4):
            self.assertEqual(journey.tick(), "arrived")
            self.assertEqual(journey.ticks, ticks)
            self.assertEqual([getattr(journey, name) for name in FIELDS if name != "ticks"], kept)

    def test_blocked_from_the_beginning(self):
        world = World(made(), GROUND)
        number = world.put(wall(2))
        journey = Journey(world, (1, 0, 2), (18, 0, 2), 3)
        self.shown(journey, status="blocked", string=[], pieces=[], position=(0, 0, 1), point=(1, 2, 1), plans=1,
                   floor=(0, 0, 1), seen=1)
        self.assertEqual([journey.tick(), journey.tick()], ["blocked", "blocked"])
        self.shown(journey, ticks=2, plans=1, point=(1, 2, 1))
        world.take(number)
        self.assertEqual(journey.tick(), "walking")
        self.shown(journey, ticks=3, plans=2, position=(0, 3, 17), floor=(0, 0, 1), seen=2)

    def test_box_on_the_way(self):
        world = World(made(), GROUND)
        journey = Journey(world, (1, 0, 2), (18, 0, 2), 3)
        journey.tick()
        post = world.put((9, 0, 1, 11, 9, 3, False))
        self.assertEqual(journey.tick(), "walking")
        self.assertEqual(journey.string[0], (4, 2))
        self.assertGreater(len(journey.string), 2)
        self.shown(journey, plans=2, seen=1, ticks=2)
        world.put((9, 0, 5, 11, 9, 7, False))
        self.assertEqual(journey.tick(), "blocked")
        self.shown(journey, plans=3, string=[], pieces=[], position=(0, 0, 1))
        world.take(post)
        self.assertEqual(journey.tick(), "walking")
        self.shown(journey, plans=4, ticks=4)
        for _ in range(9):
            journey.tick()
        self.shown(journey, status="arrived", point=(18, 2, 1), plans=4, ticks=13)

    def test_point_is_rounded_down(self):
        world = World(made(), GROUND)
        journey = Journey(world, (1, 0, 2), (18, 0, 7), 3)
        journey.tick()
        self.shown(journey, point=(68, 49, 17), floor=(0, 0, 1))
        world.put((9, 0, 5, 11, 9, 7, False))
        journey.tick()
        self.assertEqual(journey.string[0], (4, 2))
        self.assertEqual(journey.position[1], 3)

    def test_blocked_walker_stays_at_its_exact_point(self):
        world = World(made(), GROUND)
        journey = Journey(world, (1, 0, 2), (18, 0, 7), 3)
        journey.tick()
        number = world.put(wall(3))
        self.assertEqual(journey.tick(), "blocked")
        self.shown(journey, point=(68, 49, 17), floor=(0, 0, 1), plans=2, position=(0, 0, 1))
        self.assertEqual(journey.tick(), "blocked")
        self.shown(journey, point=(68, 49, 17), plans=2, ticks=3)
        world.take(number)
        journey.tick()
        self.assertEqual(journey.string[0], (4, 2))

    def test_box_where_it_stands(self):
        world = World(made(), GROUND)
        journey = Journey(world, (1, 0, 2), (18, 0, 2), 3)
        journey.tick()
        journey.tick()
        self.shown(journey, floor=(1, 0, 1), point=(119, 34, 17))
        number = world.put(wall(1))
        self.assertEqual([journey.tick(), journey.status], ["blocked", "blocked"])
        self.shown(journey, floor=(1, 0, 1), point=(119, 34, 17), string=[], pieces=[], plans=2)
        world.take(number)
        self.assertEqual(journey.tick(), "walking")
        self.shown(journey, string=[(7, 2), (18, 2)], position=(0, 3, 11), plans=3)

    def test_box_on_the_goal(self):
        world = World(made(), GROUND)
        journey = Journey(world, (1, 0, 2), (18, 0, 2), 3)
        number = world.put((17, 0, 1, 19, 9, 2, False))
        self.assertEqual(journey.tick(), "blocked")
        self.shown(journey, goal=(4, 0, 1), aim=(18, 2))
        # Another level of the same cell is another floor.
        world.put((17, 9, 1, 19, 10, 2, True))
        self.assertEqual(journey.tick(), "blocked")
        world.take(number)
        world.take(2)
        self.assertEqual(journey.tick(), "walking")
        self.shown(journey, plans=4, seen=4)

    def test_box_behind(self):
        world = World(made(), GROUND)
        journey = Journey(world, (1, 0, 2), (18, 0, 2), 6)
        journey.tick()
        world.put(wall(0))
        self.assertEqual(journey.tick(), "walking")
        self.shown(journey, plans=2, string=[(7, 2), (18, 2)], position=(0, 6, 11), floor=(3, 0, 1))

    def test_box_in_and_out_between_ticks(self):
        world = World(made(), GROUND)
        journey = Journey(world, (1, 0, 2), (18, 0, 2), 3)
        world.take(world.put(wall(2)))
        self.assertEqual(journey.tick(), "walking")
        self.shown(journey, plans=2, seen=2, position=(0, 3, 17))
        # One that does not meet the grid counts, too.
        world.put((999, 0, 999, 1000, 1, 1000, True))
        journey.tick()
        self.shown(journey, plans=3, seen=3, position=(0, 3, 14))

    def test_plan_that_arrives(self):
        # Rounded down, the walker's point is its aim already.
        world = World(made(), GROUND)
        journey = Journey(world, (9, 0, 7), (2, 0, 2), 6)
        journey.tick()
        self.shown(journey, point=(21, 19, 7), floor=(0, 0, 1), status="walking")
        journey.aim = (3, 2)
        world.put(wall(4))
        self.assertEqual(journey.tick(), "arrived")
        self.shown(journey, string=[(3, 2)], point=(3, 2, 1), position=(0, 0, 1), plans=2, floor=(0, 0, 1))

    def test_several_journeys_share_nothing(self):
        world = World(made(), GROUND)
        one, other = (Journey(world, (1, 0, 2), (18, 0, 2), 3) for _ in range(2))
        one.string.clear()
        one.pieces.clear()
        other.tick()
        self.assertEqual((len(other.string), len(other.pieces)), (2, 5))
        self.shown(one, ticks=0, position=(0, 0, 1))


class AgainstTheWords(unittest.TestCase):

    def compare(self, journey, twin, told):
        x, z, den = journey.point
        self.assertEqual((Fraction(x, den), Fraction(z, den)), tuple(twin.point), told)
        for name in ("status", "floor", "goal", "aim", "string", "pieces", "ticks", "plans", "seen", "speed"):
            self.assertEqual(getattr(journey, name), getattr(twin, name), (told, name))
        wanted = twin.number() if twin.string else 0
        self.assertEqual(as_number(journey.position), wanted, told)

    def stands(self, journey, world, boxes, floors, told):
        """Point 13.5."""
        s = world.settings
        x, z, den = journey.point
        i, k, level = journey.floor
        self.assertIn(journey.floor, floors, told)
        self.assertTrue(i * s.cell * den <= x <= (i + 1) * s.cell * den, told)
        self.assertTrue(k * s.cell * den <= z <= (k + 1) * s.cell * den, told)
        if boxes is not None:
            free = stands_free(s, world.soup, boxes, Fraction(x, den), Fraction(z, den), level)
            self.assertTrue(free, told)

    def walk(self, seed, s, soup, boxes):
        chance = random.Random(seed)
        world = World(s, soup)
        numbers = [world.put(box) for box in boxes]
        if not world.mesh()[0]:
            return {}
        start, goal = (tuple(chance.randint(-5, many * s.cell + 5) for many in (s.columns, 2, s.rows)) for _ in "ab")
        journey, twin = (kind(world, start, goal, 1 + seed % 7) for kind in (Journey, Twin))
        seen = {}
        for tick in range(14):
            self.compare(journey, twin, (seed, tick))
            if chance.random() < 0.2:
                numbers.append(world.put(some_box(chance, s)))
            elif numbers and chance.random() < 0.1:
                world.take(numbers.pop(chance.randrange(len(numbers))))
            if journey.status != "arrived":
                floors = owners(world.mesh()[0])
            was = journey.status
            self.assertEqual(journey.tick(), journey.status)
            twin.tick()
            if journey.status == "walking" or (journey.status == "arrived" and was != "arrived"):
                self.stands(journey, world, world.box_list(), floors, (seed, tick))
            seen[journey.status] = seen.get(journey.status, 0) + 1
        return seen

    def test_some_worlds(self):
        many = {}
        for seed in range(150):
            for status, n in self.walk(seed, *(some_garden if seed % 3 else some_world)(seed)).items():
                many[status] = many.get(status, 0) + n
        self.assertEqual(sorted(many), ["arrived", "blocked", "walking"])
        self.assertGreater(min(many.values()), 100)


if __name__ == "__main__":
    unittest.main()
