"""Points 17.1 to 17.5: routes over nets, trips, their papers and the checker."""

import random
import unittest

from footpath.links import all_links
from footpath.papers import paper
from footpath.plates import owners
from footpath.settings import Settings
from footpath.strings import gates_of, is_taut, strung
from footpath.trips import check_trip, net_of, reached_over, route, trip, trip_paper
from tests.islands import Jumper, is_swept_free, some_islands
from tests.trails import (Checker, changed_paper, grid_columns, grid_mesh, has_room_near, some_place, standing_points,
                          stands_free)

JUMPS = ("jumps", 3, 2, 4)


def made(**changes):
    good = dict(columns=7, rows=1, cell=10, level=1, width=0, height=6, step=1, slope=(1, 2))
    return Settings(**{**good, **changes})


def pad(i, high, k=0, flat=True, low=0):
    return (10 * i + 1, low, 10 * k + 1, 10 * i + 9, high, 10 * k + 9, flat)


def net_over(s, boxes, jumps=JUMPS):
    return net_of(s, grid_columns(s, [], boxes), jumps)


# Two joined pads, a gap, a higher pad, a gap, two joined pads.
CHAIN = [pad(0, 4), pad(1, 4), pad(3, 6), pad(5, 4), pad(6, 4)]


def told_steps(net):
    """The steps (from, to, step), in the order in which a plate goes through them."""
    plates, portals, links = net
    owner = {floor: at for floor, at in owners(plates).items()}
    steps = []
    for index, portal in enumerate(portals):
        steps += [(portal[1], portal[2], ("portal", index)), (portal[2], portal[1], ("portal", index))]
    steps += [(owner[place], owner[other], ("link", index)) for index, (_, place, other) in enumerate(links)]
    return steps


def told_route(net, start, goal):
    """Points 9.2 and 17.1: by the rounds in which plates are found, each told by its predecessor."""
    rounds = [[(start, None)]]
    came = {start: None}
    while rounds[-1]:
        later = []
        for plate, _ in rounds[-1]:
            for one, other, step in told_steps(net):
                if one == plate and other not in came:
                    came[other] = (plate, step)
                    later.append((other, step))
        rounds.append(later)
    if goal not in came:
        return None
    steps = []
    while came[goal]:
        goal, step = came[goal]
        steps.insert(0, step)
    return steps


class TripChecker:
    """Point 17.4 by its words."""

    def __init__(self, settings, soup, boxes, jumps):
        self.settings, self.jumps = settings, jumps
        self.walks = Checker(settings, soup, boxes)

    def result(self, papers):
        parts = papers[1]
        for at in range(len(parts) + 1):
            if at == len(parts) and at % 2 == 1:
                break
            if at == len(parts) or parts[at][0] != ("walk", "leap")[at % 2]:
                return ("refused", "form", at)
        for at, part in enumerate(parts):
            if part[0] == "walk":
                said = self.walks.result(part[1])
                if said[0] != "taken":
                    return ("refused", said[1], at, said[2])
            else:
                for fault in ("from", "to", "far", "height", "flight"):
                    if not getattr(self, fault + "_holds")(parts[at - 1][1], part, parts[at + 1][1]):
                        return ("refused", fault, at)
        return ("taken",)

    def middle(self, floor):
        return tuple(n * self.settings.cell + self.settings.cell // 2 for n in floor[:2])

    def from_holds(self, before, leap, behind):
        return before[2][-1][:3] == leap[1] and before[1][-1] == self.middle(leap[1])

    def to_holds(self, before, leap, behind):
        return bool(behind[2]) and behind[2][0][:3] == leap[2] and behind[1][0] == self.middle(leap[2])

    def far_holds(self, before, leap, behind):
        gaps = [abs(a - b) for a, b in zip(leap[1][:2], leap[2][:2])]
        return min(gaps) == 0 and max(gaps) in range(1, self.jumps[1] + 1)

    def height_holds(self, before, leap, behind):
        return leap[2][2] - leap[1][2] in range(-self.jumps[3], self.jumps[2] + 1)

    def flight_holds(self, before, leap, behind):
        (i, k, a), (j, m, b) = leap[1:]
        rise, tall, high = self.settings.rise, self.settings.tall, max(a, b)
        line = [(x, z) for x in range(min(i, j), max(i, j) + 1) for z in range(min(k, m), max(k, m) + 1)]
        asked = [((i, k), a), ((j, m), b)] + [(cell, high) for cell in line]
        return all(has_room_near(self.walks, x, z, low + rise, high + tall) for (x, z), low in asked)


class Nets(unittest.TestCase):

    def test_example(self):
        s = made(columns=5)
        boxes = [(1, 0, 0, 9, 4, 9, True), (31, 0, 0, 49, 2, 9, True)]
        jumps = ("jumps", 3, 0, 2)
        net = net_over(s, boxes, jumps)
        self.assertEqual(net, ([("plate", 0, 0, 0, 0, (4,)), ("plate", 3, 0, 4, 0, (2, 2))], [],
                               [("link", (0, 0, 4), (3, 0, 2))]))
        found = trip(s, net, (2, 3, 0), (44, 3, 1))
        self.assertEqual(found, ("trip", [("walk", ("way", [0], [], [(2, 3), (5, 5)], [])), ("leap", 0),
                                          ("walk", ("way", [1], [], [(35, 5), (44, 3)], []))]))
        self.assertEqual(check_trip(s, [], boxes, jumps, trip_paper(s, net, found)), ("taken",))
        self.assertIsNone(trip(s, net, (44, 3, 1), (2, 3, 0)))

    def test_net(self):
        for seed in range(30):
            s, soup, boxes, jumps = some_islands(seed)
            columns = grid_columns(s, soup, boxes)
            net = net_of(s, columns, jumps)
            self.assertIs(type(net), tuple)
            self.assertEqual(net, grid_mesh(s, soup, boxes) + (all_links(s, columns, jumps),))


class Routes(unittest.TestCase):

    def test_none_and_itself(self):
        net = net_over(made(), CHAIN, ("jumps", 3, 0, 4))
        self.assertEqual(len(net[0]), 3)
        self.assertEqual([route(net, at, at) for at in range(3)], [[], [], []])
        self.assertIsNone(route(net, 0, 1))
        self.assertEqual(reached_over(net, 0), [0])
        self.assertEqual(reached_over(net, 1), [0, 1, 2])
        self.assertEqual((route(net, 1, 2), route(net, 1, 0)), ([("link", 0)], [("link", 1)]))

    def test_one_behind_the_other(self):
        net = net_over(made(), CHAIN)
        links = net[2]
        found = route(net, 0, 2)
        self.assertEqual([(kind, links[index]) for kind, index in found],
                         [("link", ("link", (1, 0, 4), (3, 0, 6))), ("link", ("link", (3, 0, 6), (5, 0, 4)))])
        self.assertEqual(reached_over(net, 2), [0, 1, 2])

    def test_portals_ahead_of_links(self):
        plates = [("plate", n, 0, n, 0, (0,)) for n in range(4)]
        links = [("link", (0, 0, 0), (1, 0, 0)), ("link", (0, 0, 0), (2, 0, 0)), ("link", (0, 0, 0), (2, 0, 0)),
                 ("link", (2, 0, 0), (3, 0, 0))]
        portals = [("portal", 1, 3, 4, 0, 4, 4), ("portal", 0, 1, 4, 0, 4, 4), ("portal", 0, 1, 4, 4, 4, 8)]
        self.assertEqual(route((plates, portals, links), 0, 1), [("portal", 1)])
        self.assertEqual(route((plates, portals, links), 0, 2), [("link", 1)])
        # Plate 1 is found first, by a portal, though a link of a lower index leads to 2.
        self.assertEqual(route((plates, portals, links), 0, 3), [("portal", 1), ("portal", 0)])
        self.assertEqual(route((plates, portals[:1], links), 0, 3), [("link", 0), ("portal", 0)])
        self.assertEqual(route((plates, portals[1:], links), 0, 3), [("link", 1), ("link", 3)])
        self.assertEqual(route((plates, portals, links), 3, 0), [("portal", 0), ("portal", 1)])
        self.assertEqual(route((plates, portals, links), 3, 2), [("portal", 0), ("portal", 1), ("link", 1)])
        self.assertIsNone(route((plates, portals, links[3:]), 3, 2))
        self.assertEqual(reached_over((plates, portals, links[3:]), 3), [0, 1, 3])

    def test_link_within_one_plate_is_no_step_of_a_route(self):
        plates = [("plate", 0, 0, 2, 0, (0, 0, 0)), ("plate", 4, 0, 4, 0, (0,))]
        links = [("link", (0, 0, 0), (2, 0, 0)), ("link", (2, 0, 0), (4, 0, 0))]
        self.assertEqual(route((plates, [], links), 0, 1), [("link", 1)])
        self.assertEqual(route((plates, [], links), 0, 0), [])

    def test_against_the_second_way(self):
        many = links = 0
        for seed in range(150):
            s, soup, boxes, jumps = some_islands(seed)
            net = net_of(s, grid_columns(s, soup, boxes), jumps)
            for start in range(min(3, len(net[0]))):
                reached = []
                for goal in range(len(net[0])):
                    found = route(net, start, goal)
                    self.assertEqual(found, told_route(net, start, goal), (seed, start, goal))
                    if found is not None:
                        reached.append(goal)
                        many += len(found)
                        links += len([kind for kind, _ in found if kind == "link"])
                self.assertEqual(reached_over(net, start), reached, seed)
        self.assertGreater(many - links, 100)
        self.assertGreater(links, 400)

    def test_connected_floors(self):
        for seed in range(80):
            s, soup, boxes, jumps = some_islands(seed)
            net = net_of(s, grid_columns(s, soup, boxes), jumps)
            told = Jumper(s, soup, boxes, jumps)
            near = {floor: [] for floor in told.floors}
            for one, other in told.joined | {link[1:] for link in told.links()}:
                near[one].append(other)
            owner = owners(net[0])
            for start in range(min(3, len(net[0]))):
                seen = {floor for floor in owner if owner[floor] == start}
                left = list(seen)
                while left:
                    fresh = [floor for floor in near[left.pop()] if floor not in seen]
                    seen |= set(fresh)
                    left += fresh
                self.assertEqual(reached_over(net, start), sorted({owner[floor] for floor in seen}), seed)


class Trips(unittest.TestCase):

    def test_without_a_link(self):
        s = made(columns=4, tile=2)
        net = net_over(s, [pad(n, 4) for n in range(4)])
        self.assertEqual(len(net[0]), 2)
        found = trip(s, net, (1, 3, 0), (39, 5, 1))
        self.assertEqual(found, ("trip", [("walk", strung(net[:2], (1, 3, 0), (39, 5, 1), [0]))]))
        found = trip(s, net, (1, 3, 0), (1, 3, 0))
        self.assertEqual(found, ("trip", [("walk", ("way", [0], [], [(1, 3)], []))]))

    def test_two_links_one_behind_the_other(self):
        s = made(cell=9)
        boxes = [(9 * i + 1, 0, 1, 9 * i + 8, high, 8, True) for i, high in ((0, 4), (1, 4), (3, 6), (5, 4), (6, 4))]
        net = net_over(s, boxes)
        found = trip(s, net, (0, 0, 0), (63, 9, 2))
        walks = [part[1] for part in found[1] if part[0] == "walk"]
        self.assertEqual([part[0] for part in found[1]], ["walk", "leap", "walk", "leap", "walk"])
        self.assertEqual([walk[3] for walk in walks], [[(0, 0), (13, 4)], [(31, 4)], [(49, 4), (63, 9)]])
        self.assertEqual([net[2][part[1]] for part in found[1][1::2]],
                         [("link", (1, 0, 4), (3, 0, 6)), ("link", (3, 0, 6), (5, 0, 4))])
        self.assertEqual(check_trip(s, [], boxes, JUMPS, trip_paper(s, net, found)), ("taken",))

    def test_portals_between_links(self):
        s = made(columns=9, tile=2)
        boxes = [pad(0, 4), pad(2, 5)] + [pad(n, 4) for n in (4, 5, 6)] + [pad(8, 4)]
        net = net_over(s, boxes, ("jumps", 2, 2, 2))
        found = trip(s, net, (3, 3, 0), (85, 5, len(net[0]) - 1))
        self.assertEqual([part[0] for part in found[1]], ["walk", "leap"] * 3 + ["walk"])
        self.assertEqual([len(part[1][2]) for part in found[1][::2]], [0, 0, 1, 0])
        self.assertEqual([part[1][3] for part in found[1][::2]],
                         [[(3, 3), (5, 5)], [(25, 5)], [(45, 5), (65, 5)], [(85, 5)]])

    def holds(self, s, net, found, start, goal):
        """Point 17.2, part by part."""
        plates, portals, links = net
        steps = []
        owner = owners(plates)
        here = start
        for at, (kind, told) in enumerate(found[1]):
            self.assertEqual(kind, ("walk", "leap")[at % 2])
            if kind == "leap":
                steps.append(("link", told))
                i, k, _ = links[told][2]
                here = (i * s.cell + s.cell // 2, k * s.cell + s.cell // 2, owner[links[told][2]])
                continue
            end = goal
            if at + 1 < len(found[1]):
                i, k, level = links[found[1][at + 1][1]][1]
                end = (i * s.cell + s.cell // 2, k * s.cell + s.cell // 2, owner[(i, k, level)])
            _, through, way, points, bends = told
            steps += [("portal", index) for index in way]
            self.assertEqual((through[0], through[-1], points[0], points[-1]), (here[2], end[2], here[:2], end[:2]))
            gates = gates_of(net[:2], through, way)
            self.assertTrue(is_taut(gates, points, bends))
        self.assertEqual(steps, route(net, start[2], goal[2]))

    def test_some_trips(self):
        leaps = []
        for seed in range(200):
            s, soup, boxes, jumps = some_islands(seed)
            chance = random.Random(seed)
            net = net_of(s, grid_columns(s, soup, boxes), jumps)
            for _ in range(4 if net[0] else 0):
                start, goal = some_place(chance, s, net[0]), some_place(chance, s, net[0])
                found = trip(s, net, start, goal)
                if goal[2] not in reached_over(net, start[2]):
                    self.assertIsNone(found)
                    continue
                self.assertEqual((found[0], len(found[1]) % 2), ("trip", 1))
                self.holds(s, net, found, start, goal)
                written = trip_paper(s, net, found)
                told = [("walk", paper(s, net[:2], part[1])) if part[0] == "walk" else ("leap",) + net[2][part[1]][1:]
                        for part in found[1]]
                self.assertEqual(written, ("papers", told))
                self.assertEqual(check_trip(s, soup, boxes, jumps, written), ("taken",), (seed, found))
                leaps.append(len(found[1]) // 2)
        self.assertGreater(leaps.count(0), 50)
        self.assertGreater(len(leaps) - leaps.count(0) - leaps.count(1), 30)

    def test_nothing_is_changed_or_shared(self):
        s = made()
        net = net_over(s, CHAIN)
        kept = repr(net)
        found = trip(s, net, (1, 1, 0), (69, 9, 2))
        written, again = trip_paper(s, net, found), trip_paper(s, net, found)
        said = repr((found, again))
        written[1][0][1][1].clear()
        written[1][0][1][2].clear()
        written[1].clear()
        route(net, 0, 2).clear()
        reached_over(net, 0).clear()
        check_trip(s, [], CHAIN, JUMPS, again)
        self.assertEqual((repr(net), repr((found, again))), (kept, said))
        other = trip(s, net, (1, 1, 0), (69, 9, 2))
        found[1][0][1][3].clear()
        found[1].clear()
        self.assertEqual(len(other[1]), 5)
        self.assertEqual(len(other[1][0][1][3]), 2)


class Faults(unittest.TestCase):

    def setUp(self):
        self.s = made()
        self.net = net_over(self.s, CHAIN)
        found = trip(self.s, self.net, (1, 3, 0), (69, 9, 2))
        self.parts = trip_paper(self.s, self.net, found)[1]

    def said(self, parts, boxes=CHAIN, jumps=JUMPS, s=None):
        s = s or self.s
        said = check_trip(s, [], boxes, jumps, ("papers", parts))
        self.assertEqual(said, TripChecker(s, [], boxes, jumps).result(("papers", parts)))
        return said

    def put(self, at, part):
        return self.parts[:at] + [part] + self.parts[at + 1:]

    def test_right(self):
        self.assertEqual(self.said(self.parts), ("taken",))
        self.assertEqual(self.said(self.parts[:1]), ("taken",))
        self.assertEqual(self.said(self.parts[:3]), ("taken",))

    def test_form(self):
        self.assertEqual(self.said([]), ("refused", "form", 0))
        for many in (2, 4):
            self.assertEqual(self.said(self.parts[:many]), ("refused", "form", many))
        for at in range(5):
            left = self.parts[:at] + self.parts[at + 1:]
            self.assertEqual(self.said(left), ("refused", "form", at if at < 4 else 4))
            twice = self.parts[:at] + [self.parts[at]] + self.parts[at:]
            self.assertEqual(self.said(twice), ("refused", "form", at + 1))
        self.assertEqual(self.said(self.put(1, self.parts[0])), ("refused", "form", 1))
        self.assertEqual(self.said(self.put(2, self.parts[1])), ("refused", "form", 2))
        self.assertEqual(self.said(self.put(0, self.parts[1])), ("refused", "form", 0))

    def test_form_comes_first(self):
        empty = ("walk", ("paper", [(1, 3)], []))
        self.assertEqual(self.said([empty] + self.parts[1:4]), ("refused", "form", 4))
        self.assertEqual(self.said([empty] + self.parts[1:]), ("refused", "end", 0, 0))

    def test_walks(self):
        for at in (0, 2, 4):
            _, points, pieces = self.parts[at][1]
            wrong = ("walk", ("paper", points, [(9, 9) + pieces[0][2:]] + pieces[1:]))
            # Where a walk begins is looked at with the leap ahead of it.
            told = ("refused", "cell", 0, 0) if at == 0 else ("refused", "to", at - 1)
            self.assertEqual(self.said(self.put(at, wrong)), told)
        _, points, pieces = self.parts[4][1]
        wrong = ("walk", ("paper", points, pieces[:-1] + [pieces[-1][:2] + (9,) + pieces[-1][3:]]))
        self.assertEqual(self.said(self.put(4, wrong)), ("refused", "step", 4, 1))
        self.assertEqual(self.said(self.put(4, ("walk", ("paper", points, pieces[:1])))), ("refused", "end", 4, 1))
        self.assertEqual(self.said(self.parts, CHAIN[:3] + [CHAIN[4]]), ("refused", "ground", 4, 0))

    def test_from(self):
        for place in ((0, 0, 4), (1, 1, 4), (1, 0, 5), (1, 0, 3), (2, 0, 4)):
            self.assertEqual(self.said(self.put(1, ("leap", place, (3, 0, 6)))), ("refused", "from", 1), place)
        for end in ((14, 5), (16, 5), (15, 4), (15, 6)):
            walk = ("walk", ("paper", [(11, 3), end], [(1, 0, 4, 1, 0, 1)]))
            self.assertEqual(self.said(self.put(0, walk)), ("refused", "from", 1), end)
        walk = ("walk", ("paper", [(11, 3), (15, 5)], [(1, 0, 4, 1, 0, 1)]))
        self.assertEqual(self.said(self.put(0, walk)), ("taken",))

    def test_to(self):
        for other in ((4, 0, 6), (3, 1, 6), (3, 0, 5), (3, 0, 7), (2, 0, 6)):
            self.assertEqual(self.said(self.put(1, ("leap", (1, 0, 4), other))), ("refused", "to", 1), other)
        for begin in ((34, 5), (36, 5), (35, 4), (35, 6)):
            walk = ("walk", ("paper", [begin, (35, 5)], [(3, 0, 6, 1, 0, 1)]))
            self.assertEqual(self.said(self.put(2, walk)), ("refused", "to", 1), begin)
        self.assertEqual(self.said(self.put(2, ("walk", ("paper", [(35, 5)], [])))), ("refused", "to", 1))
        # The walk ahead is looked at first.
        self.assertEqual(self.said(self.put(1, ("leap", (9, 9, 9), (9, 9, 9)))), ("refused", "from", 1))

    def test_far(self):
        self.assertEqual(self.said(self.parts, jumps=("jumps", 1, 2, 4)), ("refused", "far", 1))
        self.assertEqual(self.said(self.parts, jumps=("jumps", 2, 2, 4)), ("taken",))
        walks = [("walk", ("paper", [(i * 10 + 5, k * 10 + 5)], [(i, k, 4, 0, 0, 1)])) for i, k in ((0, 0), (1, 1), (0, 1))]
        s, boxes = made(rows=2), [pad(0, 4), pad(1, 4, k=1), pad(0, 4, k=1)]
        told = self.said([walks[0], ("leap", (0, 0, 4), (1, 1, 4)), walks[1]], boxes, s=s)
        self.assertEqual(told, ("refused", "far", 1))
        told = self.said([walks[0], ("leap", (0, 0, 4), (0, 0, 4)), walks[0]], boxes, s=s)
        self.assertEqual(told, ("refused", "far", 1))
        told = self.said([walks[0], ("leap", (0, 0, 4), (0, 1, 4)), walks[2]], boxes, s=s)
        self.assertEqual(told, ("taken",))

    def test_height(self):
        self.assertEqual(self.said(self.parts, jumps=("jumps", 3, 1, 4)), ("refused", "height", 1))
        self.assertEqual(self.said(self.parts, jumps=("jumps", 3, 2, 1)), ("refused", "height", 3))
        self.assertEqual(self.said(self.parts, jumps=("jumps", 3, 2, 2)), ("taken",))
        self.assertEqual(self.said(self.parts, jumps=("jumps", 1, 1, 1)), ("refused", "far", 1))

    def test_flight(self):
        for part, i in ((1, 2), (3, 4)):
            for low, high, is_right in ((0, 7, True), (0, 8, False), (11, 12, False), (12, 13, True)):
                said = self.said(self.parts, CHAIN + [pad(i, high, low=low, flat=False)])
                self.assertEqual(said, ("taken",) if is_right else ("refused", "flight", part), (i, low))
        # Over the first cell, above the head of the walker that stands there.
        self.assertEqual(self.said(self.parts, CHAIN + [pad(1, 12, low=11)]), ("refused", "flight", 1))
        self.assertEqual(self.said(self.parts, CHAIN + [pad(5, 12, low=11)]), ("refused", "flight", 3))
        self.assertEqual(self.said(self.parts, CHAIN + [pad(1, 13, low=12)]), ("taken",))
        self.assertEqual(self.said(self.parts, CHAIN + [pad(2, 8, flat=False)], ("jumps", 3, 1, 4)), ("refused", "height", 1))

    def test_flight_with_reach(self):
        s = made(columns=9, rows=3, width=1)
        boxes = [pad(n, 4, k=k) for n in (1, 2, 3, 5, 6, 7) for k in (0, 1, 2)]
        walks = [("walk", ("paper", [(i * 10 + 5, 15)], [(i, 1, 4, 0, 0, 1)])) for i in (2, 6)]
        parts = [walks[0], ("leap", (2, 1, 4), (6, 1, 4)), walks[1]]
        jumps = ("jumps", 4, 0, 0)
        self.assertEqual(self.said(parts, boxes, jumps, s), ("taken",))
        for i in range(9):
            for k in range(3):
                post = pad(i, 9, k=k, low=6, flat=False)
                told = ("refused", "room", 0, 0) if 1 <= i <= 3 else ("refused", "flight", 1)
                said = self.said(parts, boxes + [post], jumps, s)
                self.assertEqual(said, ("taken",) if i in (0, 8) else told, (i, k))

    def test_flight_out_of_the_grid(self):
        walk = self.parts[0]
        wrong = ("walk", ("paper", [(-15, 5)], [(-2, 0, 4, 0, 0, 1)]))
        parts = [("walk", ("paper", [(5, 5)], [(0, 0, 4, 0, 0, 1)])), ("leap", (0, 0, 4), (-2, 0, 4)), wrong]
        self.assertEqual(self.said(parts), ("refused", "flight", 1))
        self.assertEqual(walk[0], "walk")

    def changed(self, chance, papers):
        parts = list(papers[1])
        at = chance.randrange(len(parts))
        kind = chance.randrange(7)
        if kind == 0:
            del parts[at]
        elif kind == 1:
            parts.insert(at, chance.choice(parts))
        elif kind == 2:
            parts[at] = chance.choice(parts)
        elif parts[at][0] == "walk":
            if parts[at][1][2]:
                parts[at] = ("walk", changed_paper(chance, parts[at][1]))
        else:
            numbers = [list(floor) for floor in parts[at][1:]]
            numbers[chance.randrange(2)][chance.randrange(3)] += chance.choice((-2, -1, 1, 2))
            parts[at] = ("leap", tuple(numbers[0]), tuple(numbers[1]))
        return ("papers", parts)

    def test_changed_papers(self):
        seen, taken = {}, 0
        for seed in range(250):
            s, soup, boxes, jumps = some_islands(seed)
            chance = random.Random(seed)
            net = net_of(s, grid_columns(s, soup, boxes), jumps)
            for _ in range(4 if net[0] else 0):
                start, goal = some_place(chance, s, net[0]), some_place(chance, s, net[0])
                found = trip(s, net, start, goal)
                if found is None or len(found[1]) == 1:
                    continue
                for _ in range(6):
                    # Other boxes and other jumps make the flights wrong.
                    few = [box for box in boxes if chance.random() < 0.95]
                    more = few + [(0, n, 0, 90, n + 1, 90, False) for n in range(40) if chance.random() < 0.01]
                    other = ("jumps",) + tuple(max(n, n - chance.choice((0, 0, 0, 1))) for n in jumps[1:])
                    changed = trip_paper(s, net, found)
                    if chance.random() < 0.8:
                        changed = self.changed(chance, changed)
                    said = check_trip(s, soup, more, other, changed)
                    self.assertEqual(said, TripChecker(s, soup, more, other).result(changed), (seed, changed))
                    seen[said[:2]] = seen.get(said[:2], 0) + 1
                    if said == ("taken",):
                        self.stands(s, soup, more, changed)
                        taken += 1
        self.assertGreater(taken, 150)
        faults = {fault for _, *fault in seen for fault in fault}
        self.assertLessEqual({"form", "from", "to", "flight", "step", "ground", "outside"}, faults)

    def stands(self, s, soup, boxes, papers):
        """Point 17.5."""
        for part in papers[1]:
            if part[0] == "walk":
                for x, z, level in standing_points(part[1]):
                    self.assertTrue(stands_free(s, soup, boxes, x, z, level))
            else:
                self.assertTrue(is_swept_free(s, soup, boxes, part[1], part[2]))


if __name__ == "__main__":
    unittest.main()
