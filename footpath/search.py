"""Ways through plates: lists of portals from a plate to another one."""

from heapq import heappop, heappush


def other_side(portal, plate):
    """Return the plate to which a portal leads from a plate, or None if it is no portal of it."""
    _, p, q, _, _, _, _ = portal
    if plate == p:
        return q
    return p if plate == q else None


def steps_at(mesh):
    """Return for each plate the list of its steps, the pairs of a portal's index and the plate behind it, ascending."""
    plates, portals = mesh
    found = [[] for _ in plates]
    for index, (_, p, q, _, _, _, _) in enumerate(portals):
        found[p].append((index, q))
        found[q].append((index, p))
    return found


def found_from(steps, start):
    """Return a dict from the plates that can be reached, in the order in which they are found in rounds.

    For each plate, its steps are pairs of a name and the plate to which it leads. The values are the
    pairs of the plate before and the name of the step by which the plate is found, and None for the start.
    """
    found = {start: None}
    present = [start]
    while present:
        later = []
        for plate in present:
            for name, other in steps[plate]:
                if other not in found:
                    found[other] = (plate, name)
                    later.append(other)
        present = later
    return found


def steps_to(found, goal):
    """Return the list of the names of the steps by which a plate was found, or None if it was not."""
    if goal not in found:
        return None
    names = []
    step = found[goal]
    while step is not None:
        plate, name = step
        names.append(name)
        step = found[plate]
    return names[::-1]


def reached(mesh, start):
    """Return the ascending list of the plates that can be reached from a plate."""
    return sorted(found_from(steps_at(mesh), start))


def fewest(mesh, start, goal):
    """Return the way with the fewest portals from a plate to another one, or None."""
    return steps_to(found_from(steps_at(mesh), start), goal)


def plates_of(mesh, start, way):
    """Return the list of the plates through which a way leads, or None if it is no way."""
    portals = mesh[1]
    plates = [start]
    for index in way:
        if not 0 <= index < len(portals):
            return None
        other = other_side(portals[index], plates[-1])
        if other is None:
            return None
        plates.append(other)
    return plates


def middle(portal):
    """Return the middle of a portal, in doubled coordinates."""
    _, _, _, x0, z0, x1, z1 = portal
    return (x0 + x1, z0 + z1)


def doubled(place):
    """Return the point of a place, in doubled coordinates."""
    x, z, _ = place
    return (2 * x, 2 * z)


def along_axes(one, other):
    """Return the distance of two points along the axes."""
    return abs(one[0] - other[0]) + abs(one[1] - other[1])


def cost(mesh, start, goal, way):
    """Return the cost of a way from a place to another one."""
    points = [doubled(start)] + [middle(mesh[1][index]) for index in way] + [doubled(goal)]
    return sum(along_axes(one, other) for one, other in zip(points, points[1:]))


def cheapest(mesh, start, goal):
    """Return the pair of the least cost of the ways between two places and a way with it, or None."""
    portals = mesh[1]
    near = steps_at(mesh)
    # A step is a portal and the plate behind it: what may come next depends on both. The start
    # and the goal count as portals, too, with indices that no portal has.
    begin, end = (-1, start[2]), (len(portals), goal[2])
    points = [middle(portal) for portal in portals] + [doubled(goal), doubled(start)]
    before = {}
    queue = [(0, begin, begin)]
    while queue:
        paid, step, last = heappop(queue)
        if step in before:
            continue
        before[step] = last
        if step == end:
            return (paid, way_back(before, begin, last))
        index, plate = step
        later = [choice for choice in near[plate] if choice[0] != index]
        if plate == goal[2]:
            later.append(end)
        for choice in later:
            heappush(queue, (paid + along_axes(points[index], points[choice[0]]), choice, step))
    return None


def way_back(before, begin, step):
    """Return the way of portals from the beginning to a step."""
    way = []
    while step != begin:
        way.append(step[0])
        step = before[step]
    return way[::-1]
