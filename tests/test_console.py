"""Points 15.1 to 15.3: scripts."""

import random
import unittest

from footpath.console import run_script
from footpath.errors import CommandError, FootpathError
from footpath.locate import place_near
from footpath.moving import Journey
from footpath.papers import check, paper
from footpath.settings import Settings
from footpath.strings import find_way
from footpath.world import World
from tests.trails import some_garden

SETTINGS = "settings 3 1 4 1 0 5 1 1 2 0 8"
GROUND = "triangle -9 0 -9 99 0 -9 -9 0 99"
WORLD = [SETTINGS, GROUND, "world"]


def run(*lines):
    return run_script("\n".join(lines))


class Lines(unittest.TestCase):

    def fails(self, line, *lines):
        with self.assertRaises(CommandError) as caught:
            run(*lines)
        self.assertEqual(caught.exception.line, line, lines)

    def test_empty_and_comments(self):
        self.assertEqual(run_script(""), [])
        self.assertEqual(run_script("\n\n   \n"), [])
        self.assertEqual(run("# world", "   #world", "#", " # 1 2 3 ", "#\tany thing", "##"), [])

    def test_spaces(self):
        told = run(*WORLD, "plates")
        self.assertEqual(run("  settings  3 1 4   1 0 5 1 1 2 0 8 ", " " + GROUND, "world   ", "", " plates"), told)
        self.assertEqual(told, ["plate 0 0 2 0 levels 1 1 1"])

    def test_only_spaces_separate_words(self):
        for line in ("\tworld", "world\t", "\t", "world\r", "\r", "take\t1", "\x0bworld", "\x0c", "take\u00a01", "\u2028"):
            self.fails(4, *WORLD, line)
        for gap in ("\r", "\x0b", "\x0c", "\x1c", "\x85", "\u2028"):
            self.fails(4, *WORLD, "stale" + gap + "stale")

    def test_a_comment_is_the_first_word(self):
        self.fails(4, *WORLD, "plates # all")
        self.fails(4, *WORLD, "world#")
        self.fails(4, *WORLD, "take 1 #")
        self.fails(1, "// world")

    def test_words(self):
        for word in ("World", "WORLD", "worlds", "walk", "0", "1", "-", "settings3", "error", "performed"):
            self.fails(2, "", word)

    def test_how_many_numbers(self):
        many = {"settings": 11, "triangle": 9, "world": 0, "put": 7, "take": 1, "stale": 0, "plates": 0, "portals": 0,
                "way": 6, "paper": 6, "journey": 7, "tick": 1}
        for word, right in many.items():
            for number in range(14):
                line = " ".join([word] + ["1"] * number)
                if number == right:
                    self.assertLessEqual(len(run(*WORLD, line)), 3)
                else:
                    self.fails(4, *WORLD, line)

    def test_numbers(self):
        for word in ("0", "1", "9", "10", "999999999", "-1", "-999999999", "-10", "123456789"):
            self.assertEqual(run(*WORLD, "take " + word), ["error PlaceError box"], word)
        wrong = ("00", "01", "-0", "-01", "+1", "--1", "1-", "-", "1.0", "1e3", "1_0", "0x1", "1234567890", "0123456789",
                 "-1234567890", "one", "1,", "\u0661", "\u00b2", "\uff11", "-\u0661", "- 1", "0000000000")
        for word in wrong:
            self.fails(4, *WORLD, "take " + word)

    def test_first_wrong_line(self):
        self.fails(1, "x")
        self.fails(3, "", "", "x", "y")
        self.fails(2, "world", "take", "x")
        self.fails(5, *WORLD, "plates", "plates 1")
        self.fails(6, "", "# one", *WORLD, "x")

    def test_errors_ahead_do_not_matter(self):
        self.fails(3, "world", "take 1", "take x")

    def test_command_error_is_one_of_the_package(self):
        with self.assertRaises(FootpathError):
            run_script("x")


class Commands(unittest.TestCase):

    def test_examples(self):
        told = run_script("settings 3 1 4 1 0 5 1 1 2 0 8\ntriangle -9 0 -9 99 0 -9 -9 0 99\nworld\nplates\n"
                          "way 1 0 2 11 0 2\njourney 1 0 2 11 0 2 4\ntick 9")
        self.assertEqual(told, ["plate 0 0 2 0 levels 1 1 1", "plates 0", "string 1 2 11 2",
                                "walking 1 2 1 floor 0 0 1", "arrived 11 2 1 floor 2 0 1"])
        told = run_script("world\nsettings 0 1 4 1 0 5 1 1 2 0 8\ntake 1")
        self.assertEqual(told, ["error PlaceError settings", "error SettingsError columns", "error PlaceError world"])

    def test_what_writes_nothing(self):
        self.assertEqual(run(*WORLD), [])
        self.assertEqual(run(*WORLD, "put 1 0 1 2 9 2 0", "take 1"), ["box 1"])

    def test_settings_in_order(self):
        names = ["columns", "rows", "cell", "level", "width", "height", "step", "slope", "slope", "slack", "tile"]
        good = [3, 1, 4, 1, 0, 5, 1, 1, 2, 0, 8]
        for at, name in enumerate(names):
            wrong = good[:at] + [-1] + good[at + 1:]
            self.assertEqual(run("settings " + " ".join(map(str, wrong))), ["error SettingsError " + name])
        self.assertEqual(run("settings 3 1 4 1 0 5 1 3 2 0 8"), ["error SettingsError slope"])

    def test_settings_are_used(self):
        told = run("settings 5 2 10 2 3 12 3 1 2 1 3", GROUND, "put 0 0 0 1 1 1 0", "world", "stale", "plates")
        self.assertEqual(told, ["error PlaceError world", "tile 0 0", "tile 1 0"])
        told = run("settings 5 3 10 2 3 12 3 1 2 1 3", GROUND, "world", "plates", "portals")
        self.assertEqual(told, ["plate 1 1 2 1 levels 1 1", "plate 3 1 3 1 levels 1", "portal 0 1 30 10 30 20"])

    def test_soup_and_settings_are_kept_for_later_worlds(self):
        self.assertEqual(run(GROUND, SETTINGS, "world", "world", "plates"), ["plate 0 0 2 0 levels 1 1 1"])
        roof = "triangle -9 3 -9 99 3 -9 -9 3 99"
        self.assertEqual(run(*WORLD, roof, "settings 1 1 4 1 0 5 1 1 2 0 8", "plates"), ["plate 0 0 2 0 levels 1 1 1"])
        self.assertEqual(run(*WORLD, roof, "settings 1 1 4 1 0 5 1 1 2 0 8", "world", "plates"),
                         ["plate 0 0 0 0 levels 4"])

    def test_triangle_has_three_points(self):
        told = run(SETTINGS, "triangle 0 2 0 3 2 0 0 2 3", "triangle 9 7 1 11 7 1 9 7 3", "world", "plates")
        self.assertEqual(told, ["plate 0 0 0 0 levels 3", "plate 2 0 2 0 levels 8"])

    def test_triangle_out_of_range(self):
        far = "triangle 0 0 0 1000001 0 0 0 0 9"
        told = run(SETTINGS, GROUND, far, "world", "plates", "world")
        self.assertEqual(told, ["error SoupError 1", "error PlaceError world", "error SoupError 1"])
        self.assertEqual(run(far, "world", SETTINGS, "world"), ["error PlaceError settings", "error SoupError 0"])

    def test_put_take_and_stale(self):
        told = run("settings 4 1 4 1 0 5 1 1 2 0 2", GROUND, "world", "stale", "plates", "stale", "put 1 0 1 2 9 2 0",
                   "stale", "plates", "take 1", "put 9 0 1 10 2 2 5", "stale", "plates", "take 1", "take 2", "take 2")
        self.assertEqual(told, [
            "tile 0 0", "tile 1 0", "plate 0 0 1 0 levels 1 1", "plate 2 0 3 0 levels 1 1",
            "box 1", "tile 0 0", "plate 1 0 1 0 levels 1", "plate 2 0 3 0 levels 1 1",
            "box 2", "tile 0 0", "tile 1 0", "plate 0 0 1 0 levels 1 1", "plate 2 0 3 0 levels 2 1",
            "error PlaceError box", "error PlaceError box",
        ])

    def test_flat_boxes(self):
        for flag, level in (("0", None), ("1", 2), ("-1", 2), ("999999999", 2)):
            told = run(SETTINGS, "world", "put 1 0 1 2 2 2 " + flag, "plates")
            self.assertEqual(told, ["box 1"] + ([f"plate 0 0 0 0 levels {level}"] if level else []))

    def test_boxes_that_are_none(self):
        for box in ("1 0 1 1 9 2 0", "1 9 1 2 9 2 0", "1 0 2 2 9 1 0", "1 0 1 1000001 9 2 0"):
            self.assertEqual(run(*WORLD, "put " + box, "put 1 0 1 2 9 2 0"), ["error SoupError 0", "box 1"])

    def test_portals(self):
        told = run("settings 4 2 4 1 0 5 1 1 2 0 2", GROUND, "world", "portals", "put 9 0 1 10 9 2 0", "plates", "portals")
        self.assertEqual(told, [
            "portal 0 1 8 0 8 8", "box 1",
            "plate 0 0 1 1 levels 1 1 1 1", "plate 3 0 3 1 levels 1 1", "plate 2 1 2 1 levels 1",
            "portal 0 2 8 4 8 8", "portal 2 1 12 4 12 8",
        ])

    def test_no_plates(self):
        told = run(SETTINGS, "world", "plates", "portals", "way 0 0 0 1 1 1", "paper 0 0 0 1 1 1", "journey 0 0 0 1 1 1 1",
                   "journey 0 0 0 1 1 1 0", "tick 0")
        self.assertEqual(told, ["error PlaceError floor"] * 3 + ["error PlaceError speed", "error PlaceError journey"])

    def test_way_and_paper(self):
        told = run(*WORLD, "way 1 0 2 11 0 2", "paper 1 0 2 11 0 2", "way 5 0 2 5 0 2", "paper 5 0 2 5 0 2",
                   "way -50 0 -50 99 0 99")
        self.assertEqual(told, ["plates 0", "string 1 2 11 2", "pieces 3 taken", "plates 0", "string 5 2",
                                "pieces 1 taken", "plates 0", "string 0 0 12 4"])

    def test_no_way(self):
        told = run(*WORLD, "put 5 0 1 6 9 2 0", "way 1 0 2 11 0 2", "paper 1 0 2 11 0 2", "journey 1 0 2 11 0 2 1", "tick 5")
        self.assertEqual(told, ["box 1", "no way", "no way", "blocked 1 2 1 floor 0 0 1", "blocked 1 2 1 floor 0 0 1"])

    def test_way_over_several_plates(self):
        lines = ["settings 2 2 4 1 0 5 1 1 2 0 2", GROUND, "world", "put 5 0 1 6 9 2 0", "way 0 0 0 8 0 8", "paper 0 0 0 8 0 8"]
        self.assertEqual(run(*lines), ["box 1", "plates 0 1", "string 0 0 4 5 8 8", "pieces 3 taken"])

    def test_journey_and_ticks(self):
        told = run(*WORLD, "journey 1 0 2 11 0 3 3", "tick 0", "tick 1", "tick 1", "tick 2", "tick 1000")
        self.assertEqual(told, ["walking 1 2 1 floor 0 0 1", "walking 1 2 1 floor 0 0 1", "walking 40 23 10 floor 0 0 1",
                                "walking 70 26 10 floor 1 0 1", "arrived 11 3 1 floor 2 0 1", "arrived 11 3 1 floor 2 0 1"])

    def test_range_of_ticks(self):
        journey = "journey 1 0 2 11 0 2 1"
        for number in ("-1", "1001", "999999999", "-999999999"):
            told = run(*WORLD, journey, "tick " + number, "tick 0")
            self.assertEqual(told[1:], ["error PlaceError journey", "walking 1 2 1 floor 0 0 1"])
        self.assertEqual(run(*WORLD, journey, "tick 1000")[1:], ["arrived 11 2 1 floor 2 0 1"])

    def test_ticks_see_the_boxes(self):
        told = run(*WORLD, "journey 1 0 2 11 0 2 3", "tick 1", "put 9 0 1 10 9 2 0", "tick 1", "take 1", "tick 1")
        self.assertEqual(told, ["walking 1 2 1 floor 0 0 1", "walking 40 20 10 floor 0 0 1", "box 1",
                                "blocked 40 20 10 floor 0 0 1", "walking 49 14 7 floor 1 0 1"])

    def test_without_a_world(self):
        lines = ["put 1 0 1 2 9 2 0", "take 1", "stale", "plates", "portals", "way 1 1 1 2 2 2", "paper 1 1 1 2 2 2",
                 "journey 1 1 1 2 2 2 1", "journey 1 1 1 2 2 2 0", "tick 1", "tick -1", "put 3 3 3 3 3 3 3"]
        for ahead in ([], [SETTINGS, GROUND]):
            self.assertEqual(run(*ahead, *lines), ["error PlaceError world"] * len(lines))

    def test_journey_that_cannot_begin_leaves_none(self):
        begin, fail = "journey 1 0 2 11 0 2 1", "journey 1 0 2 11 0 2 0"
        told = run(*WORLD, "tick 1", fail, "tick 1", begin, "tick 1", fail, "tick 1", "tick 0")
        self.assertEqual(told, ["error PlaceError journey", "error PlaceError speed", "error PlaceError journey",
                                "walking 1 2 1 floor 0 0 1", "walking 20 20 10 floor 0 0 1", "error PlaceError speed",
                                "error PlaceError journey", "error PlaceError journey"])
        told = run(*WORLD, begin, "put 0 0 0 12 9 4 0", "journey 1 0 2 11 0 2 1", "tick 1")
        self.assertEqual(told[1:], ["box 1", "error PlaceError floor", "error PlaceError journey"])

    def test_new_world_has_no_boxes_and_no_journey(self):
        told = run(*WORLD, "put 1 0 1 2 9 2 0", "journey 5 0 2 11 0 2 1", "world", "plates", "take 1", "tick 1",
                   "put 1 0 1 2 9 2 0")
        self.assertEqual(told, ["box 1", "walking 5 2 1 floor 1 0 1", "plate 0 0 2 0 levels 1 1 1",
                                "error PlaceError box", "error PlaceError journey", "box 1"])

    def test_failed_settings_leave_none(self):
        wrong = "settings 3 1 2 1 0 5 1 1 2 0 8"
        told = run(SETTINGS, wrong, "world", SETTINGS, "world", "plates")
        self.assertEqual(told, ["error SettingsError cell", "error PlaceError settings"])
        # The world that has been made stays, until another one is asked for.
        told = run(*WORLD, wrong, "plates", "journey 1 0 2 11 0 2 1", "world", "plates", "tick 1", SETTINGS, "plates", "world",
                   "plates")
        self.assertEqual(told, ["error SettingsError cell", "plate 0 0 2 0 levels 1 1 1", "walking 1 2 1 floor 0 0 1",
                                "error PlaceError settings", "error PlaceError world", "error PlaceError world",
                                "error PlaceError world", "plate 0 0 2 0 levels 1 1 1"])

    def test_failed_world_leaves_none(self):
        far = "triangle 0 0 0 0 1000001 0 0 0 9"
        told = run(*WORLD, "journey 1 0 2 11 0 2 1", far, "plates", "world", "plates", "tick 0")
        self.assertEqual(told[2:], ["error SoupError 1", "error PlaceError world", "error PlaceError world"])

    def test_scripts_share_nothing(self):
        run(*WORLD)
        self.assertEqual(run("plates", "world"), ["error PlaceError world", "error PlaceError settings"])

    def test_against_calls(self):
        for seed in range(60):
            s, soup, boxes = some_garden(seed)
            chance = random.Random(seed)
            world = World(s, soup)
            numbers = (s.columns, s.rows, s.cell, s.level, s.width, s.height, s.step, *s.slope, s.slack, s.tile)
            lines = ["settings " + " ".join(map(str, numbers)), "#", "world"]
            lines[1:2] = ["triangle " + " ".join(str(n) for point in t for n in point) for t in soup]
            told = []
            for box in boxes:
                lines.append("put " + " ".join(str(int(n)) for n in box))
                told.append(f"box {world.put(box)}")
            points = [tuple(chance.randint(-3, 40) for _ in range(3)) for _ in range(2)]
            six = " ".join(str(n) for point in points for n in point)
            lines += ["stale", "plates", "portals", "way " + six, "paper " + six, "journey " + six + " 3", "tick 4"]
            self.assertEqual(run(*lines), told + list(self.told(world, points)), seed)

    def told(self, world, points):
        s = world.settings
        yield from (f"tile {a} {b}" for a, b in world.stale())
        mesh = world.mesh()
        for _, *numbers, levels in mesh[0]:
            yield "plate " + " ".join(map(str, numbers)) + " levels " + " ".join(map(str, levels))
        for _, *numbers in mesh[1]:
            yield "portal " + " ".join(map(str, numbers))
        if not mesh[0]:
            yield from ["error PlaceError floor"] * 3 + ["error PlaceError journey"]
            return
        way = find_way(mesh, *(place_near(s, mesh[0], *point) for point in points))
        if way is None:
            yield from ["no way", "no way"]
        else:
            yield "plates " + " ".join(map(str, way[1]))
            yield "string " + " ".join(f"{x} {z}" for x, z in way[3])
            written = paper(s, mesh, way)
            said = check(s, world.soup, world.box_list(), written)
            yield f"pieces {len(written[2])} " + " ".join(map(str, said))
        journey = Journey(world, *points, 3)
        for many in (0, 4):
            for _ in range(many):
                journey.tick()
            parts = [journey.status, *journey.point, "floor", *journey.floor]
            yield " ".join(map(str, parts))


if __name__ == "__main__":
    unittest.main()
