"""Points 18.1 to 18.6: crowds."""

from copy import deepcopy
from fractions import Fraction
from itertools import combinations, product
import random
import unittest

from footpath.crowd import Crowd, are_apart, last_stop
from footpath.errors import PlaceError
from footpath.moving import Journey
from footpath.plates import owners
from footpath.settings import Settings
from footpath.world import World
from tests.reference import some_box, some_world
from tests.trails import as_number, some_garden, stands_free
from tests.walkers import CrowdTwin, bodies_touch, body_at, lengths, told_apart

GROUND = [((-9, 0, -9), (999, 0, -9), (-9, 0, 999))]


def made(**changes):
    good = dict(columns=6, rows=1, cell=4, level=1, width=0, height=5, step=1, slope=(1, 2), tile=8)
    return Settings(**{**good, **changes})


def crowd_on(s, *walkers):
    """A crowd on the ground, with walkers (x, z, x, z, speed)."""
    crowd = Crowd(World(s, GROUND))
    for x, z, goal_x, goal_z, speed in walkers:
        crowd.add((x, 0, z), (goal_x, 0, goal_z), speed)
    return crowd


def state(crowd):
    """All that a crowd shows of its walkers."""
    names = ("status", "floor", "goal", "aim", "point", "string", "position", "plans", "seen", "pieces", "speed")
    return [([getattr(m.journey, name) for name in names], m.piece) for m in crowd.members]


def where(crowd):
    return [(m.journey.status, m.journey.floor[0], m.journey.position, m.piece) for m in crowd.members]


class Apart(unittest.TestCase):

    def test_example(self):
        s = made(width=1)
        self.assertEqual([are_apart(s, (0, 0, 1), (2, 0, 1)), are_apart(s, (0, 0, 1), (3, 0, 1)),
                          are_apart(s, (0, 0, 1), (0, 0, 6))], [False, True, True])

    def test_edges(self):
        for width, reach in ((0, 0), (1, 1), (4, 1), (5, 2), (16, 4)):
            s = made(width=width)
            self.assertEqual(s.reach, reach)
            for i, k, level in product((-2 * reach - 1, -2 * reach, 0, 2 * reach, 2 * reach + 1), (-2 * reach - 1, 0, 2 * reach),
                                       (-s.tall, 1 - s.tall, 0, s.tall - 1, s.tall)):
                one, other = (9, 9, 9), (9 + i, 9 + k, 9 + level)
                wanted = max(abs(i), abs(k)) > 2 * reach or abs(level) >= s.tall
                self.assertIs(are_apart(s, one, other), wanted)
                self.assertIs(are_apart(s, (9, 9, 9), (9 + k, 9 + i, 9 + level)), wanted)

    def test_bodies_do_not_touch(self):
        # A body is widest apart from another one in the corners of the cells.
        for width, tall in product((0, 1, 3, 4, 5, 9), (1, 3)):
            s = made(width=width, height=tall, step=(tall - 1) // 2)
            for i, k, level in product(range(7), range(3), range(4)):
                one, other = (0, 0, 0), (i, k, level)
                touch = False
                for a, b, c, d in product((0, 4), repeat=4):
                    bodies = []
                    for (x, z), floor in (((a, b), one), ((c + 4 * i, d + 4 * k), other)):
                        bottom, top = floor[2] + s.rise, floor[2] + s.tall
                        bodies.append(((x - width, bottom, z - width), (x + width, top, z + width)))
                    touch = touch or bodies_touch(*bodies)
                if are_apart(s, one, other):
                    self.assertFalse(touch, (width, tall, other))


class LastStop(unittest.TestCase):

    def test_at_points_and_between(self):
        points = [(0, 0), (4, 2), (4, 7)]
        told = {(0, 0, 1): (0, 0, 1), (0, 1, 5): (0, 0, 1), (0, 1, 4): (0, 1, 4), (0, 2, 8): (0, 1, 4), (0, 3, 8): (0, 1, 4),
                (0, 499, 1000): (0, 1, 4), (0, 1, 2): (0, 2, 4), (0, 99, 100): (0, 3, 4), (1, 0, 1): (1, 0, 1), (1, 0, 9): (1, 0, 1),
                (1, 1, 6): (1, 0, 1), (1, 1, 5): (1, 1, 5), (1, 5, 6): (1, 4, 5), (2, 0, 1): (2, 0, 1)}
        for position, stop in told.items():
            self.assertEqual(last_stop(points, position), stop, position)

    def test_against_the_lengths(self):
        for seed in range(200):
            chance = random.Random(seed)
            points = [(chance.randint(0, 5), 0)]
            for _ in range(3):
                points.append((points[-1][0] + chance.randint(-9, 9), points[-1][1] + chance.randint(1, 9)))
            den = chance.randint(1, 30)
            at, top = chance.randrange(3), chance.randrange(den)
            found = last_stop(points, (at, top, den))
            long = lengths(points)[at]
            stops = [Fraction(n, long) for n in range(long) if Fraction(n, long) <= Fraction(top, den)]
            self.assertEqual(as_number(found), at + max(stops))
            self.assertEqual(found[2], long if found[1] else 1)

    def test_one_point(self):
        self.assertEqual(last_stop([(3, 3)], (0, 0, 1)), (0, 0, 1))


class Adding(unittest.TestCase):

    def fails(self, name, crowd, *told):
        kept = state(crowd)
        with self.assertRaises(PlaceError) as caught:
            crowd.add(*told)
        self.assertEqual(caught.exception.name, name)
        self.assertEqual(state(crowd), kept)

    def test_fields(self):
        world = World(made(), GROUND)
        crowd = Crowd(world)
        self.assertIs(crowd.world, world)
        self.assertEqual((crowd.members, crowd.ticks), ([], 0))
        self.assertEqual(crowd.add((1, 0, 2), (23, 0, 2), 3), 0)
        self.assertEqual(crowd.add((9, 0, 2), (23, 0, 2), 3), 1)
        self.assertEqual([m.piece for m in crowd.members], [-1, -1])
        self.assertEqual([crowd.floor_of(n) for n in (0, 1)], [(0, 0, 1), (2, 0, 1)])
        journey, lone = crowd.members[1].journey, Journey(world, (9, 0, 2), (23, 0, 2), 3)
        for name in ("status", "floor", "goal", "aim", "point", "string", "position", "plans", "seen", "pieces", "speed"):
            self.assertEqual(getattr(journey, name), getattr(lone, name))

    def test_errors(self):
        crowd = crowd_on(made(), (1, 2, 23, 2, 3))
        for speed in (0, -1):
            self.fails("speed", crowd, (1, 0, 2), (23, 0, 2), speed)
        self.fails("space", crowd, (1, 0, 2), (23, 0, 2), 1)
        self.fails("space", crowd, (3, 0, 1), (3, 0, 1), 1)
        crowd.world.put((0, 0, 0, 24, 9, 4, False))
        self.fails("speed", crowd, (1, 0, 2), (23, 0, 2), 0)
        self.fails("floor", crowd, (1, 0, 2), (23, 0, 2), 1)

    def test_numbers_go_on(self):
        crowd = crowd_on(made(), (1, 2, 23, 2, 3))
        self.fails("space", crowd, (2, 0, 2), (23, 0, 2), 1)
        self.assertEqual(crowd.add((5, 0, 2), (23, 0, 2), 1), 1)

    def test_space_with_reach(self):
        s = made(columns=9, rows=7, width=1)
        for i, k in product(range(1, 8), range(1, 6)):
            crowd = crowd_on(s, (14, 14, 14, 14, 1))
            self.assertEqual(crowd.floor_of(0), (3, 3, 1))
            floor = (i, k, 1)
            has_space = abs(i - 3) > 2 or abs(k - 3) > 2
            self.assertIs(crowd.has_space(1, floor), has_space)
            self.assertIs(crowd.has_space(0, floor), True)
            if has_space:
                self.assertEqual(crowd.add((4 * i + 1, 0, 4 * k + 1), (14, 0, 14), 1), 1)
            else:
                self.fails("space", crowd, (4 * i + 1, 0, 4 * k + 1), (14, 0, 14), 1)

    def test_has_space(self):
        crowd = crowd_on(made(), (1, 2, 1, 2, 3), (9, 2, 9, 2, 3), (17, 2, 17, 2, 1))
        for number, i in product(range(4), range(6)):
            taken = [2 * n for n in range(3) if n != number]
            self.assertIs(crowd.has_space(number, (i, 0, 1)), i not in taken)
            self.assertIs(crowd.has_space(number, (i, 0, 6)), True)
            self.assertIs(crowd.has_space(number, (i, 0, 5)), i not in taken)

    def test_where_a_walker_was_is_free(self):
        crowd = crowd_on(made(), (1, 2, 23, 2, 5))
        self.assertEqual(crowd.tick(), [0])
        self.assertEqual(crowd.add((1, 0, 2), (23, 0, 2), 1), 1)


class Ticks(unittest.TestCase):

    def test_empty_crowd(self):
        crowd = Crowd(World(made(), GROUND))
        self.assertIs(crowd.is_stuck(), True)
        self.assertEqual([crowd.tick(), crowd.tick(), crowd.ticks], [[], [], 2])

    def test_one_walker(self):
        crowd = crowd_on(made(), (1, 2, 23, 2, 5))
        told = [("walking", 1, (0, 5, 22), 1), ("walking", 2, (0, 10, 22), 2), ("walking", 3, (0, 15, 22), 3),
                ("walking", 5, (0, 20, 22), 5), ("arrived", 5, (1, 0, 1), 5), ("arrived", 5, (1, 0, 1), 5)]
        for tick, wanted in enumerate(told):
            self.assertIs(crowd.is_stuck(), tick == 5)
            self.assertEqual(crowd.tick(), [0] if tick < 5 else [])
            self.assertEqual(where(crowd), [wanted])
            self.assertEqual(crowd.ticks, tick + 1)

    def test_one_behind_the_other(self):
        crowd = crowd_on(made(), (5, 2, 23, 2, 1), (1, 2, 19, 2, 9))
        # The one behind comes as far as the side of the other one's cell.
        self.assertEqual(crowd.tick(), [0, 1])
        self.assertEqual(where(crowd), [("walking", 1, (0, 1, 18), 0), ("walking", 0, (0, 3, 18), 0)])
        self.assertEqual(crowd.tick(), [0])
        self.assertEqual(crowd.tick(), [0])
        self.assertEqual(crowd.tick(), [0, 1])
        self.assertEqual(where(crowd), [("walking", 2, (0, 4, 18), 1), ("walking", 1, (0, 7, 18), 1)])

    def test_order_of_the_numbers(self):
        # The one ahead has the greater number: it goes only when the other one has had its turn.
        crowd = crowd_on(made(), (3, 2, 19, 2, 9), (7, 2, 23, 2, 9))
        self.assertEqual(crowd.tick(), [0, 1])
        self.assertEqual(where(crowd), [("walking", 0, (0, 1, 16), 0), ("walking", 3, (0, 9, 16), 2)])
        self.assertEqual(crowd.tick(), [0, 1])
        self.assertEqual(where(crowd), [("walking", 2, (0, 9, 16), 2), ("arrived", 5, (1, 0, 1), 4)])

    def test_face_to_face(self):
        crowd = crowd_on(made(), (1, 2, 23, 2, 3), (23, 2, 1, 2, 2))
        self.assertEqual([crowd.tick() for _ in range(6)], [[0, 1], [0, 1], [0, 1], [0, 1], [0], []])
        self.assertEqual(where(crowd), [("walking", 3, (0, 15, 22), 3), ("walking", 4, (0, 7, 22), 1)])
        self.assertIs(crowd.is_stuck(), True)
        kept = state(crowd)
        self.assertEqual([crowd.tick(), state(crowd)], [[], kept])
        # A box makes them plan anew, but they stand in each other's way.
        number = crowd.world.put((999, 0, 999, 1000, 1, 1000, True))
        self.assertIs(crowd.is_stuck(), False)
        self.assertEqual(crowd.tick(), [])
        self.assertEqual([m.journey.plans for m in crowd.members], [2, 2])
        self.assertIs(crowd.is_stuck(), True)
        crowd.world.take(number)
        self.assertIs(crowd.is_stuck(), False)

    def test_past_each_other(self):
        crowd = crowd_on(made(rows=2), (1, 2, 23, 2, 3), (23, 6, 1, 6, 2))
        for _ in range(11):
            crowd.tick()
        self.assertEqual([m.journey.status for m in crowd.members], ["arrived", "arrived"])

    def test_first_piece_is_not_the_floor(self):
        # It starts on a side: its nearest floor is the left one, its paper begins in the right one.
        crowd = crowd_on(made(), (4, 2, 23, 2, 1), (5, 2, 5, 2, 1))
        self.assertEqual([crowd.floor_of(0), crowd.members[0].journey.pieces[0][:2]], [(0, 0, 1), (1, 0)])
        self.assertEqual(crowd.members[1].journey.status, "arrived")
        self.assertEqual(crowd.tick(), [])
        self.assertEqual(where(crowd)[0], ("walking", 0, (0, 0, 1), -1))
        self.assertIs(crowd.is_stuck(), True)
        crowd = crowd_on(made(), (4, 2, 23, 2, 1))
        self.assertEqual(crowd.tick(), [0])
        self.assertEqual(where(crowd)[0], ("walking", 1, (0, 1, 19), 0))

    def test_last_stop_is_whole(self):
        # The side of the next cell is met at a fraction of a length.
        crowd = crowd_on(made(columns=3, rows=3), (1, 1, 11, 8, 9), (5, 6, 5, 6, 1))
        journey = crowd.members[0].journey
        self.assertEqual([piece[:2] for piece in journey.pieces[:3]], [(0, 0), (1, 0), (1, 1)])
        self.assertEqual(as_number(journey.pieces[1][3:]), Fraction(3, 7))
        self.assertEqual(crowd.tick(), [0])
        self.assertEqual(where(crowd)[0], ("walking", 1, (0, 4, 10), 1))
        self.assertEqual((journey.point, crowd.tick()), ((50, 38, 10), []))

    def test_pieces_left_at_the_end(self):
        # The goal is on a side; the paper ends in the cell behind it.
        s = made(tile=2)
        crowd = Crowd(World(s, GROUND))
        crowd.world.put((9, 0, 1, 10, 2, 2, True))
        crowd.add((5, 0, 2), (8, 9, 2), 9)
        journey = crowd.members[0].journey
        self.assertEqual(journey.goal, (2, 0, 2))
        self.assertEqual([piece[:2] for piece in journey.pieces], [(1, 0), (2, 0)])
        crowd.add((9, 0, 2), (9, 0, 2), 1)
        self.assertEqual(crowd.tick(), [0])
        self.assertEqual(where(crowd)[0], ("walking", 1, (1, 0, 1), 0))
        self.assertEqual(crowd.tick(), [])
        self.assertIs(crowd.is_stuck(), True)

    def test_takes_the_last_pieces_later(self):
        s = made(tile=2)
        crowd = Crowd(World(s, GROUND))
        crowd.world.put((9, 0, 1, 10, 2, 2, True))
        crowd.add((5, 0, 2), (8, 9, 2), 9)
        crowd.add((9, 0, 2), (23, 0, 2), 2)
        self.assertEqual(crowd.tick(), [0, 1])
        self.assertEqual(where(crowd)[0], ("walking", 1, (1, 0, 1), 0))
        self.assertEqual(crowd.tick(), [1])
        self.assertIs(crowd.is_stuck(), False)
        self.assertEqual(crowd.tick(), [0, 1])
        self.assertEqual(where(crowd)[0], ("arrived", 2, (1, 0, 1), 1))
        self.assertEqual(crowd.floor_of(0), (2, 0, 2))

    def test_floor_at_the_end_is_that_of_the_last_piece(self):
        crowd = crowd_on(made(), (15, 2, 8, 2, 99))
        self.assertEqual(crowd.members[0].journey.goal, (1, 0, 1))
        self.assertEqual(crowd.tick(), [0])
        self.assertEqual(where(crowd), [("arrived", 2, (1, 0, 1), 1)])

    def test_arrived_at_once(self):
        crowd = crowd_on(made(), (5, 2, 5, 2, 3), (1, 2, 23, 2, 9))
        self.assertEqual(where(crowd)[0], ("arrived", 1, (0, 0, 1), -1))
        self.assertEqual(crowd.tick(), [1])
        # It stays, whatever happens, and the other one does not get past it.
        crowd.world.put((5, 0, 1, 7, 9, 2, False))
        self.assertEqual(crowd.tick(), [])
        self.assertEqual(where(crowd)[0], ("arrived", 1, (0, 0, 1), -1))
        self.assertEqual([m.journey.plans for m in crowd.members], [1, 2])
        self.assertEqual(crowd.members[1].journey.status, "blocked")

    def test_new_plan_that_arrives(self):
        crowd = crowd_on(made(), (1, 2, 9, 2, 3))
        crowd.tick()
        crowd.members[0].journey.aim = (4, 2)
        crowd.members[0].journey.goal = (0, 0, 1)
        crowd.world.put((999, 0, 999, 1000, 1, 1000, True))
        self.assertEqual(crowd.tick(), [])
        self.assertEqual(where(crowd), [("arrived", 0, (0, 0, 1), -1)])

    def test_blocked_and_free_again(self):
        crowd = crowd_on(made(), (1, 2, 23, 2, 3), (23, 2, 21, 2, 1))
        crowd.tick()
        number = crowd.world.put((13, 0, 1, 14, 9, 2, False))
        self.assertIs(crowd.is_stuck(), False)
        self.assertEqual(crowd.tick(), [1])
        self.assertEqual(where(crowd), [("blocked", 0, (0, 0, 1), -1), ("arrived", 5, (1, 0, 1), 0)])
        self.assertIs(crowd.is_stuck(), True)
        self.assertEqual(crowd.tick(), [])
        crowd.world.take(number)
        self.assertEqual(crowd.tick(), [0])
        # Its new paper begins in the next cell, as it stood on the side of it.
        self.assertEqual(where(crowd)[0], ("walking", 1, (0, 3, 19), 0))

    def test_new_plan_is_no_move(self):
        crowd = crowd_on(made(), (1, 2, 23, 2, 3), (5, 2, 5, 2, 1))
        self.assertEqual(crowd.tick(), [0])
        self.assertEqual(where(crowd)[0], ("walking", 0, (0, 3, 22), 0))
        crowd.world.put((999, 0, 999, 1000, 1, 1000, True))
        # It stands at (4, 2), and its paper begins in the cell of the other one.
        self.assertEqual(crowd.tick(), [])
        self.assertEqual(where(crowd)[0], ("walking", 0, (0, 0, 1), -1))

    def test_is_stuck_changes_nothing(self):
        crowd = crowd_on(made(), (1, 2, 23, 2, 3), (23, 2, 1, 2, 2))
        crowd.world.put((999, 0, 999, 1000, 1, 1000, True))
        for _ in range(8):
            kept = (state(crowd), crowd.ticks, crowd.world.built)
            crowd.is_stuck()
            self.assertEqual((state(crowd), crowd.ticks, crowd.world.built), kept)
            crowd.tick()

    def test_levels_over_each_other(self):
        # A bridge over the ground: walkers cross without meeting.
        s = made(columns=3, rows=3, height=4)
        crowd = Crowd(World(s, GROUND))
        for k in range(3):
            crowd.world.put((5, 6, 4 * k + 1, 7, 7, 4 * k + 3, True))
        crowd.add((1, 0, 6), (11, 0, 6), 2)
        crowd.add((6, 7, 1), (6, 7, 11), 2)
        for _ in range(5):
            self.assertEqual(crowd.tick(), [0, 1])
        self.assertEqual([m.journey.status for m in crowd.members], ["arrived", "arrived"])


class OneWalker(unittest.TestCase):
    """A crowd of one walker goes as a journey of its own."""

    def test_some_worlds(self):
        arrived = 0
        for seed in range(80):
            s, soup, boxes = some_garden(seed)
            chance = random.Random(seed)
            world = World(s, soup)
            for box in boxes:
                world.put(box)
            if not world.mesh()[0]:
                continue
            start, goal = (tuple(chance.randint(-5, 9 * s.cell) for _ in range(3)) for _ in "ab")
            crowd, lone = Crowd(world), Journey(world, start, goal, 1 + seed % 6)
            crowd.add(start, goal, 1 + seed % 6)
            journey = crowd.members[0].journey
            for _ in range(12):
                if chance.random() < 0.2:
                    world.put(some_box(chance, s))
                crowd.tick()
                lone.tick()
                for name in ("status", "point", "string", "position", "plans", "seen", "pieces", "aim", "goal"):
                    self.assertEqual(getattr(journey, name), getattr(lone, name), (seed, name))
                if lone.status != "arrived":
                    self.assertEqual(journey.floor, lone.floor, seed)
                elif len(journey.string) > 1:
                    self.assertEqual(journey.floor, journey.pieces[-1][:3])
            arrived += lone.status == "arrived"
        self.assertGreater(arrived, 20)


class AgainstTheWords(unittest.TestCase):

    def compare(self, crowd, twin, told):
        self.assertEqual(len(crowd.members), len(twin.walkers))
        for member, walker in zip(crowd.members, twin.walkers):
            journey = member.journey
            x, z, den = journey.point
            self.assertEqual((Fraction(x, den), Fraction(z, den)), tuple(walker.point), told)
            for name in ("status", "floor", "goal", "aim", "string", "pieces", "plans", "seen", "speed"):
                self.assertEqual(getattr(journey, name), getattr(walker, name), (told, name))
            self.assertEqual(as_number(journey.position), walker.number() if walker.string else 0, told)
            self.assertEqual(member.piece, walker.piece, told)

    def keeps_apart(self, crowd, floors, told):
        """Point 18.6."""
        s = crowd.world.settings
        for member in crowd.members:
            journey = member.journey
            x, z, den = journey.point
            i, k, level = journey.floor
            self.assertTrue(i * s.cell * den <= x <= (i + 1) * s.cell * den, told)
            self.assertTrue(k * s.cell * den <= z <= (k + 1) * s.cell * den, told)
            if journey.status != "blocked":
                self.assertIn(journey.floor, floors[journey.seen], told)
            if journey.status == "walking":
                boxes = crowd.world.box_list()
                self.assertTrue(stands_free(s, crowd.world.soup, boxes, Fraction(x, den), Fraction(z, den), level), told)
        for one, other in combinations(crowd.members, 2):
            self.assertTrue(told_apart(s, one.journey.floor, other.journey.floor), told)
            self.assertFalse(bodies_touch(body_at(s, one.journey), body_at(s, other.journey)), told)

    def stuck_holds(self, crowd, told):
        """A crowd is stuck exactly if nobody plans, moves or arrives in a tick."""
        is_stuck = crowd.is_stuck()
        later = deepcopy(crowd)
        moved = later.tick()
        told_of = [[(m.journey.status, m.journey.plans) for m in c.members] for c in (crowd, later)]
        self.assertIs(is_stuck, moved == [] and told_of[0] == told_of[1], told)
        if is_stuck:
            self.assertIs(later.is_stuck(), True, told)
            self.assertEqual(later.tick(), [], told)

    def walk(self, seed, s, soup, boxes, seen):
        chance = random.Random(seed)
        world = World(s, soup)
        numbers = [world.put(box) for box in boxes]
        if not world.mesh()[0]:
            return
        crowd, twin = Crowd(world), CrowdTwin(world)
        # For each number of changes, the floors of the mesh.
        floors = {}
        for tick in range(12):
            floors[world.changes] = owners(world.mesh()[0])
            if chance.random() < (0.9 if tick < 4 else 0.2) and world.mesh()[0]:
                start, goal = (tuple(chance.randint(-2, many * s.cell + 2) for many in (s.columns, 2, s.rows)) for _ in "ab")
                speed = chance.randint(1, 9)
                if twin.add(start, goal, speed):
                    self.assertEqual(crowd.add(start, goal, speed), len(twin.walkers) - 1)
                else:
                    with self.assertRaises(PlaceError) as caught:
                        crowd.add(start, goal, speed)
                    self.assertEqual(caught.exception.name, "space")
            if chance.random() < 0.1:
                numbers.append(world.put(some_box(chance, s)))
            elif numbers and chance.random() < 0.1:
                world.take(numbers.pop(chance.randrange(len(numbers))))
            self.stuck_holds(crowd, (seed, tick))
            floors[world.changes] = owners(world.mesh()[0])
            moved = twin.tick()
            self.assertEqual(crowd.tick(), moved, (seed, tick))
            self.compare(crowd, twin, (seed, tick))
            self.keeps_apart(crowd, floors, (seed, tick))
            seen["moved"] += len(moved)
            seen["waiting"] += len([w for w in twin.walkers if w.status == "walking"]) - len(moved)
            seen["stuck"] += crowd.is_stuck() and any(w.status == "walking" for w in twin.walkers)
            seen["arrived"] += len([w for w in twin.walkers if w.status == "arrived"])

    def test_some_worlds(self):
        seen = {"moved": 0, "waiting": 0, "stuck": 0, "arrived": 0}
        for seed in range(160):
            self.walk(seed, *(some_garden if seed % 4 else some_world)(seed), seen)
        self.assertGreater(min(seen.values()), 40, seen)

    def test_narrow_worlds(self):
        seen = {"moved": 0, "waiting": 0, "stuck": 0, "arrived": 0}
        for seed in range(120):
            s, soup, boxes = some_garden(seed, rows=2 if seed % 2 else 1, columns=9, width=0)
            self.walk(seed, s, soup, boxes[:3], seen)
        self.assertGreater(min(seen.values()), 100, seen)


if __name__ == "__main__":
    unittest.main()
