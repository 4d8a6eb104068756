"""Scripts: worlds, ways and journeys by commands, one a line."""

from footpath.errors import CommandError, PlaceError, SettingsError, SoupError
from footpath.locate import place_near
from footpath.moving import Journey
from footpath.papers import check, paper
from footpath.settings import Settings
from footpath.strings import find_way
from footpath.world import World

MOST_DIGITS = 9
MOST_TICKS = 1000


class Script:
    """What the lines of a script have made so far."""

    def __init__(self):
        self.settings = None
        self.soup = []
        self.world = None
        self.journey = None


def spaced(words):
    """Return one line of words and numbers."""
    return " ".join([str(word) for word in words])


def world_in(script):
    """Return the world of a script, or raise PlaceError."""
    if script.world is None:
        raise PlaceError("world")
    return script.world


def make_settings(script, numbers):
    """Make settings; if that fails there are none."""
    columns, rows, cell, level, width, height, step, num, den, slack, tile = numbers
    script.settings = None
    script.settings = Settings(columns=columns, rows=rows, cell=cell, level=level, width=width, height=height,
                               step=step, slope=(num, den), slack=slack, tile=tile)
    return []


def add_triangle(script, numbers):
    """Add a triangle to the soup for the worlds that are made later."""
    script.soup.append((tuple(numbers[:3]), tuple(numbers[3:6]), tuple(numbers[6:])))
    return []


def make_world(script, _):
    """Make a world without boxes and without a journey; if that fails there is none."""
    script.world = None
    script.journey = None
    if script.settings is None:
        raise PlaceError("settings")
    script.world = World(script.settings, script.soup)
    return []


def put_box(script, numbers):
    """Put a box in, and tell its number."""
    box = (*numbers[:6], numbers[6] != 0)
    number = world_in(script).put(box)
    return [spaced(["box", number])]


def take_box(script, numbers):
    """Take a box out."""
    world_in(script).take(numbers[0])
    return []


def tell_stale(script, _):
    """Tell the stale tiles."""
    return [spaced(("tile",) + tile) for tile in world_in(script).stale()]


def tell_plates(script, _):
    """Tell the plates of the mesh."""
    plates = world_in(script).mesh()[0]
    return [spaced(plate[:5] + ("levels",) + plate[5]) for plate in plates]


def tell_portals(script, _):
    """Tell the portals of the mesh."""
    return [spaced(portal) for portal in world_in(script).mesh()[1]]


def way_between(world, mesh, numbers):
    """Return the found way between the floors nearest to two points, or None."""
    x, y, z, goal_x, goal_y, goal_z = numbers
    start = place_near(world.settings, mesh[0], x, y, z)
    goal = place_near(world.settings, mesh[0], goal_x, goal_y, goal_z)
    return find_way(mesh, start, goal)


def tell_way(script, numbers):
    """Tell the plates and the taut string of a way."""
    world = world_in(script)
    way = way_between(world, world.mesh(), numbers)
    if way is None:
        return ["no way"]
    _, plates, _, points, _ = way
    return [spaced(["plates"] + plates), spaced(["string"] + [number for point in points for number in point])]


def tell_paper(script, numbers):
    """Tell how many pieces the paper of a way has, and what the checker says of it."""
    world = world_in(script)
    mesh = world.mesh()
    way = way_between(world, mesh, numbers)
    if way is None:
        return ["no way"]
    found = paper(world.settings, mesh, way)
    result = check(world.settings, world.soup, world.box_list(), found)
    return [spaced(["pieces", len(found[2])] + list(result))]


def begin_journey(script, numbers):
    """Begin a journey, and tell where the walker is; if that fails there is none."""
    world = world_in(script)
    script.journey = None
    script.journey = Journey(world, tuple(numbers[:3]), tuple(numbers[3:6]), numbers[6])
    return [journey_line(script.journey)]


def let_tick(script, numbers):
    """Let ticks pass, and tell where the walker is."""
    world_in(script)
    if script.journey is None or not 0 <= numbers[0] <= MOST_TICKS:
        raise PlaceError("journey")
    for _ in range(numbers[0]):
        script.journey.tick()
    return [journey_line(script.journey)]


def journey_line(journey):
    """Return the line that tells where a walker is."""
    return spaced([journey.status, *journey.point, "floor", *journey.floor])


# For each command, how many numbers stand behind it, and what performs it.
NUMBERS = {
    "settings": 11, "triangle": 9, "world": 0, "put": 7, "take": 1, "stale": 0,
    "plates": 0, "portals": 0, "way": 6, "paper": 6, "journey": 7, "tick": 1,
}
ACTIONS = {
    "settings": make_settings, "triangle": add_triangle, "world": make_world, "put": put_box, "take": take_box,
    "stale": tell_stale, "plates": tell_plates, "portals": tell_portals, "way": tell_way, "paper": tell_paper,
    "journey": begin_journey, "tick": let_tick,
}


def number_in(word):
    """Return the number that a word is, or None."""
    digits = word.removeprefix("-")
    if not 1 <= len(digits) <= MOST_DIGITS or not all(sign in "0123456789" for sign in digits):
        return None
    if digits[0] == "0" and word != "0":
        return None
    return int(word)


def command_in(words):
    """Return the pair of a command's word and its numbers, or None if the words are no command."""
    numbers = [number_in(word) for word in words[1:]]
    if words[0] not in NUMBERS or len(numbers) != NUMBERS[words[0]] or None in numbers:
        return None
    return (words[0], numbers)


def performed(script, word, numbers):
    """Perform a command, and return the list of the lines that it writes."""
    action = ACTIONS[word]
    try:
        return action(script, numbers)
    except SettingsError as wrong:
        return [spaced(["error", "SettingsError", wrong.name])]
    except SoupError as unsound:
        return [spaced(["error", "SoupError", unsound.at])]
    except PlaceError as missing:
        return [spaced(["error", "PlaceError", missing.name])]


def run_script(text):
    """Perform a script, and return the list of the lines that it writes."""
    script = Script()
    written = []
    for at, line in enumerate(text.split("\n")):
        words = [word for word in line.split(" ") if word]
        if words and not words[0].startswith("#"):
            command = command_in(words)
            if command is None:
                raise CommandError(at + 1)
            written.extend(performed(script, command[0], command[1]))
    return written
