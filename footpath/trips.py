"""Trips: walks over plates, and leaps over links between them."""

from footpath.floors import cells_near
from footpath.links import all_links, is_flight
from footpath.papers import check, paper
from footpath.plates import mesh, owners
from footpath.search import found_from, steps_at, steps_to
from footpath.solids import solids_over
from footpath.strings import strung


def net_of(settings, columns, jumps):
    """Return the net (plates, portals, links) of the grid."""
    plates, portals = mesh(settings, columns)
    return (plates, portals, all_links(settings, columns, jumps))


def steps_over(net):
    """Return for each plate the list of its steps, each with the plate to which it leads: portals first, then links."""
    plates, portals, links = net
    owner = owners(plates)
    steps = [[(("portal", index), other) for index, other in near] for near in steps_at((plates, portals))]
    for index, (_, place, other) in enumerate(links):
        steps[owner[place]].append((("link", index), owner[other]))
    return steps


def reached_over(net, start):
    """Return the ascending list of the plates to which a route leads from a plate."""
    return sorted(found_from(steps_over(net), start))


def route(net, start, goal):
    """Return the route with the fewest steps from a plate to another one, or None."""
    return steps_to(found_from(steps_over(net), start), goal)


def cell_middle(settings, place):
    """Return the middle of the cell of a floor."""
    half = settings.cell // 2
    return (place[0] * settings.cell + half, place[1] * settings.cell + half)


def trip(settings, net, start, goal):
    """Return the trip from a place to another one on the route with the fewest steps, or None."""
    plates, portals, links = net
    steps = route(net, start[2], goal[2])
    if steps is None:
        return None
    owner = owners(plates)
    here, way = start, []
    parts = []
    for kind, index in steps:
        if kind == "portal":
            way.append(index)
        else:
            ends = [cell_middle(settings, floor) + (owner[floor],) for floor in links[index][1:]]
            parts.extend([("walk", strung((plates, portals), here, ends[0], way)), ("leap", index)])
            here, way = ends[1], []
    parts.append(("walk", strung((plates, portals), here, goal, way)))
    return ("trip", parts)


def trip_paper(settings, net, found):
    """Return the paper of a trip of a net."""
    parts = []
    for kind, told in found[1]:
        if kind == "walk":
            parts.append(("walk", paper(settings, net[:2], told)))
        else:
            _, place, other = net[2][told]
            parts.append(("leap", place, other))
    return ("papers", parts)


def check_trip(settings, soup, boxes, jumps, papers):
    """Return ("taken",), or ("refused", ..) with the first fault of the papers and where it is."""
    parts = papers[1]
    wrong = wrong_part(parts)
    if wrong is not None:
        return ("refused", "form", wrong)
    for at, part in enumerate(parts):
        if part[0] == "walk":
            said = check(settings, soup, boxes, part[1])
            if said != ("taken",):
                return ("refused", said[1], at, said[2])
        else:
            fault = end_fault(settings, parts[at - 1][1], part, parts[at + 1][1])
            if fault is None:
                fault = flight_fault(settings, soup, boxes, jumps, part)
            if fault is not None:
                return ("refused", fault, at)
    return ("taken",)


def wrong_part(parts):
    """Return the index of the first part that is missing or of the wrong kind, or None."""
    for at, part in enumerate(parts):
        if part[0] != ("walk" if at % 2 == 0 else "leap"):
            return at
    return len(parts) if len(parts) % 2 == 0 else None


def end_fault(settings, before, leap, behind):
    """Return the fault of a leap that does not go from the end of a walk to the beginning of the next one, or None."""
    _, place, other = leap
    _, points, pieces = before
    if pieces[-1][:3] != place or points[-1] != cell_middle(settings, place):
        return "from"
    _, points, pieces = behind
    if not pieces or pieces[0][:3] != other or points[0] != cell_middle(settings, other):
        return "to"
    return None


def flight_fault(settings, soup, boxes, jumps, leap):
    """Return the fault of a leap between two floors that is too far, too high or not free, or None."""
    _, (i, k, level), (j, m, height) = leap
    _, far, climb, drop = jumps
    if not (i == j or k == m) or not 1 <= abs(i - j) + abs(k - m) <= far:
        return "far"
    if not level - drop <= height <= level + climb:
        return "height"
    needed = cells_near(settings, min(i, j), min(k, m), max(i, j), max(k, m))
    if needed is None:
        return "flight"
    solids = solids_over(settings, soup, boxes, needed)
    return None if is_flight(settings, solids, leap[1], leap[2]) else "flight"
