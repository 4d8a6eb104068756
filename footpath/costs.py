"""Ways over floors that cost the least, and papers that show it."""

from heapq import heappop, heappush

from footpath.floors import DIRECTIONS, partner


def floor_cost(settings, areas, place):
    """Return the half cost of a floor."""
    return max([area[6] for area in areas if is_in_area(settings, area, place)], default=1)


def is_in_area(settings, area, place):
    """Return True if a floor is in an area."""
    x0, z0, x1, z1, y0, y1, _ = area
    i, k, level = place
    cell = settings.cell
    meets = x0 <= (i + 1) * cell and i * cell <= x1 and z0 <= (k + 1) * cell and k * cell <= z1
    return meets and y0 <= level * settings.level <= y1


class Ground:
    """Floors with their costs."""

    def __init__(self, settings, floors, areas, climb):
        self._settings = settings
        self._floors = {cell: list(floors[cell]) for cell in floors}
        self._climb = climb
        places = [(i, k, level) for i, k in floors for level in floors[(i, k)]]
        self._halves = {place: floor_cost(settings, areas, place) for place in places}

    def has(self, place):
        """Return True if there is this floor."""
        return place in self._halves

    def steps(self, place):
        """Return the list of the pairs of a joined floor and the cost of the step to it."""
        found = []
        for di, dk in DIRECTIONS:
            other = partner(self._settings, self._floors, place, di, dk)
            if other is not None:
                found.append((other, self._step_cost(place, other)))
        return found

    def joined_cost(self, one, other):
        """Return the cost of the step between two floors, or None if they are not joined."""
        for beside, cost in self.steps(one):
            if beside == other:
                return cost
        return None

    def _step_cost(self, one, other):
        """Return the cost of the step between two joined floors."""
        return self._halves[one] + self._halves[other] + self._climb * abs(one[2] - other[2])


def by_rows(place):
    """Return the key (k, i, level) of the order of floors."""
    return (place[1], place[0], place[2])


def cheapest_floors(ground, start, goal):
    """Return the price paper of the search from a floor to another one, or None if it does not come to the goal."""
    # For each floor that is known, its cost so far and the floor from which it is reached.
    known = {start: (0, None)}
    settled = {}
    queue = [(0, by_rows(start), start)]
    while queue:
        paid, _, place = heappop(queue)
        if place == goal:
            return ("price", paid, way_to(known, goal), marks_of(settled))
        if place in settled:
            continue
        settled[place] = paid
        for other, cost in ground.steps(place):
            if other not in known or paid + cost < known[other][0]:
                known[other] = (paid + cost, place)
                heappush(queue, (paid + cost, by_rows(other), other))
    return None


def way_to(known, goal):
    """Return the way from the start to a floor."""
    way = []
    place = goal
    while place is not None:
        way.append(place)
        place = known[place][1]
    return way[::-1]


def marks_of(settled):
    """Return the list of the marks of the settled floors, in the order of floors."""
    return [place + (settled[place],) for place in sorted(settled, key=by_rows)]


def way_cost(ground, way):
    """Return the cost of a list of places, or None if it is no way."""
    if not way or not all(ground.has(place) for place in way):
        return None
    total = 0
    for one, other in zip(way, way[1:]):
        cost = ground.joined_cost(one, other)
        if cost is None:
            return None
        total += cost
    return total


def check_price(ground, start, goal, paper):
    """Return True if a price paper shows that no way from the start to the goal costs less."""
    _, paid, way, marks = paper
    if way_cost(ground, way) != paid or way[0] != start or way[-1] != goal:
        return False
    marked = {mark[:3]: mark[3] for mark in marks}
    if len(marked) < len(marks):
        return False
    if not all(ground.has(place) and marked[place] <= paid for place in marked):
        return False
    if marked.get(start, paid) > 0 or marked.get(goal, paid) != paid:
        return False
    return all(has_steps(ground, marked, paid, place) for place in marked)


def has_steps(ground, marked, paid, place):
    """Return True if no step from a marked floor leads to a mark that is higher than the step allows."""
    for other, cost in ground.steps(place):
        if marked.get(other, paid) > marked[place] + cost:
            return False
    return True
