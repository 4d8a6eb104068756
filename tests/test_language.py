"""The rules of the language that a short look at the package's files can tell (L1, L2, L7, L8, L10, L14 to L17)."""

import ast
import builtins
import importlib
import inspect
import pathlib
import re
import unittest

FOLDER = pathlib.Path(__file__).resolve().parent.parent / "footpath"
FILES = sorted(FOLDER.rglob("*.py"))
LIBRARY = {"heapq", "math", "itertools", "collections"}
BUILTINS = set("""len range enumerate zip min max sum abs sorted reversed int str bool bytes list tuple dict set frozenset
    isinstance ord repr any all divmod pow getattr hasattr setattr iter next map super property staticmethod classmethod
    Exception ValueError TypeError KeyError IndexError LookupError ZeroDivisionError ArithmeticError OverflowError
    RuntimeError NotImplementedError AttributeError StopIteration NotImplemented object type""".split())
BARRED = {"register", "mro", "elements", "open", "input", "law", "version_info", "with_traceback", "add_note"}

# What the interface lists: for each file its functions and classes, and for each class its methods.
INTERFACE = {
    "errors": {"FootpathError": [], "SettingsError": [], "SoupError": [], "PlaceError": [], "CommandError": []},
    "settings": {"Settings": ["has_cell", "tiles", "tile_cells"], "ceiled": ["number", "unit"]},
    "clipping": {
        "normal": ["triangle"],
        "is_flat": ["triangle", "slope"],
        "extent": ["triangle", "x0", "z0", "x1", "z1"],
        "less": ["one", "other"],
    },
    "solids": {
        "check_soup": ["soup"],
        "check_boxes": ["boxes"],
        "merged": ["solids"],
        "column": ["settings", "soup", "boxes", "i", "k"],
        "cells_of": ["settings", "box"],
        "columns_of": ["settings", "soup", "boxes", "i0", "k0", "i1", "k1"],
    },
    "floors": {
        "open_levels": ["settings", "solids"],
        "levels_of": ["settings", "columns", "i", "k"],
        "floors_of": ["settings", "columns", "cells"],
        "partner": ["settings", "floors", "place", "di", "dk"],
    },
    "plates": {
        "tile_plates": ["settings", "columns", "a", "b"],
        "plate_floors": ["plate"],
        "owners": ["plates"],
        "joined_portals": ["settings", "plates"],
        "mesh": ["settings", "columns"],
    },
    "locate": {
        "cell_of": ["settings", "x", "z"],
        "floor_under": ["settings", "plates", "x", "y", "z"],
        "nearest_floor": ["settings", "plates", "x", "y", "z"],
        "square_distance": ["settings", "i", "k", "x", "z"],
        "place_on": ["settings", "plates", "floor", "x", "z"],
        "place_near": ["settings", "plates", "x", "y", "z"],
        "levels_at": ["settings", "plates", "place"],
    },
    "search": {
        "reached": ["mesh", "start"],
        "fewest": ["mesh", "start", "goal"],
        "plates_of": ["mesh", "start", "way"],
        "cost": ["mesh", "start", "goal", "way"],
        "cheapest": ["mesh", "start", "goal"],
    },
    "strings": {
        "gate": ["mesh", "portal", "plate"],
        "gates_of": ["mesh", "plates", "way"],
        "taut": ["start", "gates", "end"],
        "contacts": ["gates", "points", "bends"],
        "is_taut": ["gates", "points", "bends"],
        "length_bounds": ["points", "scale"],
        "strung": ["mesh", "start", "goal", "way"],
        "find_way": ["mesh", "start", "goal"],
    },
    "boxes": {
        "touches": ["box", "triangle"],
        "touches_box": ["box", "other"],
        "walker_box": ["settings", "x", "z", "hi"],
        "is_free": ["settings", "soup", "boxes", "x", "z", "hi"],
        "first_touched": ["settings", "soup", "boxes", "x", "z", "hi"],
    },
    "papers": {"paper": ["settings", "mesh", "way"], "check": ["settings", "soup", "boxes", "paper"]},
    "moving": {
        "advanced": ["points", "position", "speed"],
        "exact_point": ["points", "position"],
        "Journey": ["tick"],
    },
    "console": {"run_script": ["text"]},
    "links": {
        "check_jumps": ["jumps"],
        "is_flight": ["settings", "columns", "place", "other"],
        "links_from": ["settings", "columns", "floors", "jumps", "place"],
        "tile_links": ["settings", "columns", "jumps", "a", "b"],
        "all_links": ["settings", "columns", "jumps"],
    },
    "trips": {
        "net_of": ["settings", "columns", "jumps"],
        "reached_over": ["net", "start"],
        "route": ["net", "start", "goal"],
        "trip": ["settings", "net", "start", "goal"],
        "trip_paper": ["settings", "net", "found"],
        "check_trip": ["settings", "soup", "boxes", "jumps", "papers"],
    },
    "crowd": {
        "are_apart": ["settings", "one", "other"],
        "last_stop": ["points", "position"],
        "Crowd": ["add", "tick", "floor_of", "has_space", "is_stuck"],
    },
    "costs": {
        "floor_cost": ["settings", "areas", "place"],
        "Ground": ["has", "steps", "joined_cost"],
        "cheapest_floors": ["ground", "start", "goal"],
        "way_cost": ["ground", "way"],
        "check_price": ["ground", "start", "goal", "paper"],
    },
    "world": {"reached_tiles": ["settings", "box"], "World": ["put", "take", "box_list", "stale", "tile", "mesh"]},
}


def trees():
    return [(file, ast.parse(file.read_text("utf-8"))) for file in FILES]


def nodes(*kinds):
    return [(file, node) for file, tree in trees() for node in ast.walk(tree) if isinstance(node, kinds)]


class Language(unittest.TestCase):

    def test_folder_holds_plain_python_files_alone(self):
        for path in FOLDER.rglob("*"):
            if "__pycache__" not in path.parts:
                self.assertTrue(path.is_dir() or re.fullmatch(r"[a-z0-9_]+\.py", path.name), path)
        self.assertIn(FOLDER / "__init__.py", FILES)
        self.assertLessEqual(len(FILES), 100)

    def test_characters_and_sizes(self):
        for file in FILES:
            text = file.read_bytes().decode("utf-8")
            self.assertIsNone(re.search(r"[^ -~\n]", text), file)
            lines = text.split("\n")
            self.assertLessEqual(len(lines), 399, file)
            self.assertLessEqual(max(len(line) for line in lines), 120, file)
        for file, node in nodes(ast.FunctionDef):
            self.assertLessEqual(node.end_lineno - node.lineno + 1, 40, (file, node.name))

    def test_imports(self):
        for file, node in nodes(ast.Import):
            self.assertTrue(file.name == "__main__.py" and [name.name for name in node.names] == ["sys"], file)
        for file, node in nodes(ast.ImportFrom):
            if node.module in LIBRARY or node.module == "__future__":
                continue
            self.assertTrue(node.level == 0 and node.module.startswith("footpath."), (file, node.lineno))
            for name in node.names:
                value = getattr(importlib.import_module(node.module), name.name)
                self.assertEqual(getattr(value, "__module__", node.module), node.module, (file, name.name))

    def test_no_floats_and_no_decorators(self):
        for file, node in nodes(ast.Div):
            self.fail(f"{file}: /")
        for file, node in nodes(ast.Constant):
            self.assertNotIsInstance(node.value, (float, complex), (file, node.lineno))
        for file, node in nodes(ast.ClassDef):
            self.assertEqual(node.decorator_list, [], (file, node.name))

    def test_names(self):
        # An example that prints a value gives "_" to the builtins.
        named = {name for name in vars(builtins)} - {"_"}
        for file, node in nodes(ast.Name):
            if isinstance(node.ctx, ast.Load):
                self.assertFalse(node.id in named - BUILTINS and node.id != "print", (file, node.lineno, node.id))
            else:
                self.assertNotIn(node.id, named | BARRED, (file, node.lineno))
        for file, node in nodes(ast.arg):
            self.assertNotIn(node.arg, named | BARRED, (file, node.lineno))
        for file, node in nodes(ast.Attribute):
            self.assertNotIn(node.attr, BARRED, (file, node.lineno))
        for file, tree in trees():
            for node in tree.body:
                self.assertNotIn(getattr(node, "name", None), named | BARRED, (file, node.lineno))

    def test_no_local_name_of_an_import_or_a_class(self):
        for file, tree in trees():
            taken = {node.name for node in tree.body if isinstance(node, ast.ClassDef)}
            for node in tree.body:
                if isinstance(node, ast.ImportFrom):
                    taken |= {name.asname or name.name for name in node.names}
            for node in ast.walk(tree):
                if isinstance(node, ast.arg):
                    self.assertNotIn(node.arg, taken, (file, node.lineno))
                if isinstance(node, ast.Name) and not isinstance(node.ctx, ast.Load):
                    self.assertNotIn(node.id, taken, (file, node.lineno))

    def test_calls_pass_what_is_taken(self):
        # Both Pythons find this only when the line is run.
        for file, tree in trees():
            module = importlib.import_module("footpath." + file.stem) if file.stem != "__init__" else None
            for node in ast.walk(tree):
                if isinstance(node, ast.Call) and isinstance(node.func, ast.Name):
                    value = getattr(module, node.func.id, None)
                    if inspect.isfunction(value) and not any(isinstance(arg, ast.Starred) for arg in node.args):
                        keywords = {keyword.arg: None for keyword in node.keywords}
                        inspect.signature(value).bind(*node.args, **keywords)

    def test_interface(self):
        for file, names in INTERFACE.items():
            module = importlib.import_module("footpath." + file)
            for name, listed in names.items():
                value = vars(module)[name]
                self.assertEqual(value.__module__, module.__name__, name)
                if inspect.isclass(value):
                    self.assertLessEqual(set(listed), set(vars(value)), name)
                else:
                    self.assertEqual(list(inspect.signature(value).parameters), listed, name)


if __name__ == "__main__":
    unittest.main()
