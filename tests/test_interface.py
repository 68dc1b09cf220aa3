"""The whole interface: names, arguments and files, and what points [1] to [4] say of every function."""

import importlib
import inspect
import sys
import unittest

from steadycover import errors
from steadycover.changes import is_change, is_uneven
from steadycover.covers import is_cover, is_order
from steadycover.cubes import is_cube, is_point
from steadycover.growth import Demand, is_bar, is_growth
from steadycover.least import is_cover_for
from steadycover.tables import Table
from steadycover.trees import is_play, is_tree
from tests.samples import deep_dict, deep_list, deep_tuple, no_strings

FUNCTIONS = {
    "cubes": """is_point(thing, n) is_cube(thing, n) holds(c, d) meet(c, d) span(c, d) distance(c, d) consensus(c, d)
        points_of(cube) literals(cube) all_cubes(n)""",
    "changes": """is_change(thing, n) change_cube(change) nature(table, change) is_plain(table, change)
        is_uneven(table, change, points) turning(table, change) plain_changes(table)""",
    "covers": """is_cover(thing, n) covered(point, cover) misfit(table, cover) wires(change, cover)
        is_order(change, cover, thing) played(change, cover, order) product_words(change, cover) longest(change, cover)
        longest_order(change, cover) flicker(change, cover) calm(change, cover) why(change, cover)
        orders(change, cover)""",
    "growth": """broken(demand, cube) is_good(demand, cube) good_primes(demand) grown(demand, cube)
        is_growth(demand, cube, thing) needed(demand) barred(demand) is_bar(demand, thing)""",
    "least": """is_cover_for(demand, thing) grown_cover(demand) needless(demand, cover) pruned(demand, cover)
        widened(demand, cover) least_covers(demand) least_size(demand) essentials(demand)""",
    "together": """conflicts(demand) greatest(demand) surely(demand, change) all_sure(demand) welcome(demand)
        implies(demand, other) price(demand, change)""",
    "trees": """is_tree(thing, n) measure(tree) at_point(point, tree) settled(cube, tree) is_play(change, tree, thing)
        word_of_play(change, tree, play) longest_of(change, tree) longest_play(change, tree) calm_tree(change, tree)
        flicker_play(change, tree) tree_of(n, cover)""",
    "reshape": """shared(tree, path) spread(tree, path) turned_in(tree) flattened(tree) calmer(n, one, other)""",
    "texts": """write_sheet(demand, cover=None) read_sheet(text) write_tree(tree) read_tree(text)""",
}
CLASSES = {
    ("tables", "Table"): """__init__(self, text) told(n, *, ons, frees=()) value(self, point) ons(self) offs(self)
        frees(self) primes(self) refines(self, other) __eq__(self, other)""",
    ("growth", "Demand"): """__init__(self, table, changes=()) __len__(self) __getitem__(self, at)
        __contains__(self, change) __eq__(self, other) __add__(self, change) only(self, numbers)""",
    ("words", "Word"): """__init__(self, text) __or__(self, other) __and__(self, other) __invert__(self)
        __eq__(self, other) __len__(self) __str__(self) cuts(self)""",
    ("desk", "Desk"): """__init__(self, table) __setitem__(self, name, change) __getitem__(self, name)
        __contains__(self, name) __len__(self) drop(self, name) names(self) rows(self) demand(self)
        __iadd__(self, cube) __isub__(self, cube) mend(self) __call__(self, point) faults(self) is_sound(self)
        undo(self) redo(self) twin(self) attempt(self, deeds)""",
}
ERRORS = {
    "InvalidCube": "at", "InvalidPoint": "at", "InvalidTable": "why", "InvalidChange": "at", "InvalidCover": "at",
    "InvalidOrder": "at", "InvalidWord": None, "InvalidTree": "path", "InvalidPlay": "path", "InvalidText": "line",
    "InvalidName": "name", "LimitExceeded": "limit", "UnknownName": "name", "NothingLeft": "word",
}


def told_in(text):
    """The names with their arguments, as the tables above tell them."""
    rows = [part.split("(", 1) for part in text.replace("\n", " ").split(") ")]
    return {name.strip(): " ".join(rest.rstrip().removesuffix(")").split()) for name, rest in rows}


def arguments_of(call):
    return str(inspect.signature(call))[1:-1]


class SignaturesTest(unittest.TestCase):
    def test_functions(self):
        count = 0
        for module, text in FUNCTIONS.items():
            held = importlib.import_module("steadycover." + module)
            for name, expected in told_in(text).items():
                count += 1
                call = vars(held)[name]
                self.assertEqual(arguments_of(call), expected.replace("=())", "=()"), (module, name))
                self.assertEqual(call.__module__, held.__name__)
                self.assertTrue(inspect.isfunction(call))
        self.assertEqual(count, 73)

    def test_classes(self):
        for (module, name), text in CLASSES.items():
            made = vars(importlib.import_module("steadycover." + module))[name]
            self.assertEqual((made.__module__, made.__bases__), ("steadycover." + module, (object,)))
            for method, expected in told_in(text).items():
                self.assertIn(method, vars(made), (name, method))
                if not method.startswith("__") or method == "__init__":
                    expected = expected + ")" if expected.endswith("=(") else expected
                    self.assertEqual(arguments_of(getattr(made, method)), expected, (name, method))

    def test_errors(self):
        self.assertEqual(errors.CoverError.__bases__, (Exception,))
        found = [name for name, thing in vars(errors).items() if isinstance(thing, type) and name != "CoverError"]
        self.assertEqual(sorted(found), sorted(ERRORS))
        for name, attribute in ERRORS.items():
            kind = getattr(errors, name)
            self.assertEqual(kind.__bases__, (errors.CoverError,))
            if attribute is None:
                self.assertIsInstance(kind(), errors.CoverError)
                continue
            self.assertEqual(vars(kind("x")), {attribute: "x"})
            self.assertEqual(vars(kind(**{attribute: "x"})), {attribute: "x"})

    def test_nothing_from_outside_is_needed(self):
        for module in (*FUNCTIONS, "tables", "words", "desk", "errors"):
            held = sys.modules["steadycover." + module]
            for thing in vars(held).values():
                if inspect.isfunction(thing) or inspect.isclass(thing):
                    self.assertTrue(thing.__module__.startswith("steadycover."), (module, thing))


class AnyValueTest(unittest.TestCase):
    def test_functions_that_judge(self):
        demand, tree = Demand(Table("0111"), [("00", "11")]), ("or", (("in", 0), ("in", 1)))
        judges = [
            lambda thing: is_point(thing, 2), lambda thing: is_cube(thing, 2), lambda thing: is_change(thing, 2),
            lambda thing: is_uneven(Table("0110"), ("00", "11"), thing), lambda thing: is_cover(thing, 2),
            lambda thing: is_order(("00", "11"), ["11"], thing), lambda thing: is_growth(demand, "01", thing),
            lambda thing: is_bar(demand, thing), lambda thing: is_cover_for(demand, thing),
            lambda thing: is_tree(thing, 2), lambda thing: is_play(("00", "11"), tree, thing),
        ]
        things = [*no_strings(), demand, deep_list(40), deep_tuple(40), deep_dict(40)]
        things += [[thing] for thing in things] + [(thing,) for thing in things] + [(thing, thing) for thing in things]
        right = [[], (), ["01"], ("01",), ("01", "01")]
        for judge in judges:
            for thing in things:
                found = judge(thing)
                self.assertIsInstance(found, bool)
                if not any(type(thing) is type(other) and thing == other for other in right):
                    self.assertIs(found, False, thing)


if __name__ == "__main__":
    unittest.main()
