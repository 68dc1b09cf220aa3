"""Trees: points [73] to [81] and the interface under steadycover/trees.py."""

import unittest
from itertools import product

from steadycover import trees
from steadycover.covers import covered, longest
from steadycover.errors import (
    InvalidChange, InvalidCover, InvalidCube, InvalidPlay, InvalidPoint, InvalidTree, LimitExceeded,
)
from steadycover.trees import (
    at_point, calm_tree, flicker_play, is_play, is_tree, longest_of, longest_play, measure, settled, tree_of,
    word_of_play,
)
from steadycover.words import Word
from tests.definitions import too_long
from tests.samples import (
    SIZES, all_changes, contained, cube_strings, no_changes, no_covers, no_cubes, no_points, no_sizes, no_strings,
    point_strings, turned_inputs,
)
from tests.some_trees import (
    IN, ONE, PULSE, ZERO, chosen_trees, defined_sign, defined_word, depth_of, leaf_word, leaves_of, no_nodes, nodes_of,
    opposite, parts_of, plays_of, tall, value_at, wide, with_node,
)

OF_CHANGE_AND_TREE = (longest_of, longest_play, calm_tree, flicker_play)
# Trees with a wrong node at one of several places.
HOSTS = (
    IN, ("not", IN), ("and", (IN, ONE)), ("or", (("not", IN), ("and", (ZERO, ("or", (IN,)))), ONE)),
    ("not", ("or", (PULSE, ("not", ("not", PULSE)), ("and", (IN, IN, IN))))), tall(8), wide(5),
)


def cut(text, of):
    return text[0] == of[0] and text[-1] == of[-1] and len(text) <= len(of)


class IsTreeTest(unittest.TestCase):
    def paths(self, thing, n):
        """The path of InvalidTree, as each function tells it, or None."""
        calls = [
            lambda: at_point("0" * n, thing), lambda: settled("-" * n, thing),
            lambda: longest_of(("0" * n, "1" * n), thing), lambda: calm_tree(("0" * n, "1" * n), thing),
            lambda: word_of_play(("0" * n, "1" * n), thing, None), lambda: is_play(("0" * n, "1" * n), thing, None),
        ]
        if n == 4:
            calls.append(lambda: measure(thing))
        found = []
        for call in calls:
            try:
                call()
                found.append(None)
            except InvalidPlay:
                found.append(None)
            except InvalidTree as error:
                found.append(error.path)
        return found

    def check(self, thing, n, path):
        self.assertIs(is_tree(thing, n), path is None, (thing, n))
        self.assertEqual(set(self.paths(thing, n)), {path}, (thing, n))

    def test_trees(self):
        for n in SIZES:
            for tree in chosen_trees(n)[::3]:
                self.check(tree, n, None)
                self.assertIs(is_tree(n=4, thing=tree), True)

    def test_leaves_of_each_input(self):
        for n in SIZES:
            for i in range(-2, 7):
                self.check(("in", i), n, None if 0 <= i < n else ())
                self.check(("not", ("in", i)), n, None if 0 <= i < n else (0,))

    def test_each_wrong_node_at_each_place(self):
        for n in (1, 2, 4):
            wrong = no_nodes(n)
            for host in HOSTS:
                for number, (path, _) in enumerate(nodes_of(host)):
                    for thing in wrong if number == 0 and host is IN else wrong[number % 5::5]:
                        spoiled = with_node(host, path, thing)
                        self.assertIs(is_tree(spoiled, n), False, spoiled)
                        with self.assertRaises(InvalidTree) as caught:
                            settled("-" * n, spoiled)
                        self.assertEqual(caught.exception.path, path, spoiled)
                        self.assertIs(type(caught.exception.path), tuple)

    def test_each_function_tells_the_path(self):
        for n in SIZES:
            for host in HOSTS[3:5]:
                for path, _ in nodes_of(host):
                    for thing in (None, ("in", n), ("and", ()), ["one"], ("not",)):
                        self.check(with_node(host, path, thing), n, path)

    def test_the_first_of_two_wrong_nodes(self):
        for host in HOSTS[3:]:
            nodes = nodes_of(host)
            for at, (path, _) in enumerate(nodes):
                for other, _ in nodes[at + 1:]:
                    if other[:len(path)] != path:
                        self.check(with_node(with_node(host, other, ("in", 9)), path, ("and", ())), 1, path)
        # A node comes before its parts, also where it is wrong itself.
        self.check(("and", (None,), None), 1, ())
        self.check(("or", (("not", None, None), None)), 1, (0,))
        self.check(("or", (("not", ("and", (IN, "x"))), None)), 1, (0, 0, 1))

    def test_eight_and_nine_deep(self):
        for deep in range(1, 12):
            for gates in (("not",), ("and",), ("or",), ("not", "and", "or")):
                for leaf in (IN, ONE):
                    self.check(tall(deep, leaf, gates), 4, None if deep <= 8 else (0,) * 8)
        self.check(tall(8, None), 1, (0,) * 7)
        self.check(tall(9, None), 1, (0,) * 8)
        self.check(tall(9, ("and", ())), 1, (0,) * 8)
        self.check(("or", (IN, tall(7), tall(8), None)), 1, (2,) + (0,) * 7)
        self.check(("or", (None, tall(8))), 1, (0,))

    def test_very_deep(self):
        for deep in (13, 20, 40):
            self.assertIs(is_tree(tall(deep), 1), False)
            self.check(tall(deep), 1, (0,) * 8)

    def test_240_and_more_leaves(self):
        for count in (1, 2, 239, 240, 241, 242, 500):
            for gate, leaf in product(("and", "or"), (IN, ONE)):
                self.check(wide(count, gate, leaf), 4, None if count <= 240 else (240,))
        twelve = ("and", (IN,) * 12)
        self.check(("or", (twelve,) * 20), 2, None)
        self.check(("or", (twelve,) * 21), 2, (20, 0))
        self.check(("or", (*(twelve,) * 20, ("not", ("and", (twelve,))))), 2, (20, 0, 0, 0))
        self.check(("or", (*(twelve,) * 19, ("and", (IN,) * 13))), 2, (19, 12))
        self.check(("or", (*(twelve,) * 19, ("and", (IN,) * 11), ONE)), 2, None)
        self.check(("or", (*(twelve,) * 19, ("and", (IN,) * 11), ONE, ("and", ()))), 2, (21,))
        self.check(("or", (*(twelve,) * 19, ("and", (IN,) * 11), ONE, ZERO, None)), 2, (21,))
        # What is wrong before the 241st leaf comes first.
        self.check(("or", (None, *(IN,) * 300)), 1, (0,))
        self.check(("or", (*(IN,) * 239, ("in", 1), *(IN,) * 60)), 1, (239,))

    def test_many_leaves_that_are_one_and_the_same_node(self):
        tree = IN
        for _ in range(7):
            tree = ("and", (tree, tree))
        self.check(tree, 1, None)
        self.check(("or", (tree, tree)), 1, (0, 0, 0, 0, 0, 0, 0, 0))
        row = ("and", (IN,) * 9)
        for _ in range(5):
            row = ("or", (row, row, row))
        # The 241st leaf is the seventh of the 27th row.
        self.check(row, 1, (0, 0, 2, 2, 2, 6))

    def test_measure(self):
        for n in SIZES:
            for tree in chosen_trees(n):
                found = measure(tree)
                self.assertIs(type(found), tuple)
                self.assertEqual(found, (leaves_of(tree), depth_of(tree)), tree)
        self.assertEqual(measure(tree=wide(240)), (240, 2))
        self.assertEqual(measure(tall(8)), (1, 8))
        self.assertEqual(measure(("in", 3)), (1, 1))
        self.assertEqual(measure(("not", ("not", ONE))), (1, 3))


class ValueTest(unittest.TestCase):
    def test_at_point(self):
        for n in SIZES:
            for tree in chosen_trees(n):
                for point in point_strings(n):
                    self.assertIs(at_point(point, tree), value_at(point, tree), (point, tree))
        self.assertIs(at_point(tree=("in", 1), point="01"), True)

    def test_settled(self):
        seen = set()
        for n in SIZES:
            for tree in chosen_trees(n)[::1 if n < 3 else 2]:
                for cube in cube_strings(n)[::1 if n < 4 else 5]:
                    found = settled(cube, tree)
                    self.assertEqual(found, defined_sign(cube, tree), (cube, tree))
                    seen.add(found)
                    if found != "-":
                        values = {value_at(point, tree) for point in contained(cube)}
                        self.assertEqual(values, {found == "1"}, (cube, tree))
        self.assertEqual(seen, {"0", "1", "-"})
        self.assertEqual(settled(tree=("or", (IN, ("not", IN))), cube="-"), "-")

    def test_each_gate_and_each_pair_of_signs(self):
        for cube in cube_strings(2):
            a, b = cube
            parts = (("in", 0), ("in", 1))
            self.assertEqual(settled(cube, ("and", parts)), "0" if "0" in cube else "1" if cube == "11" else "-")
            self.assertEqual(settled(cube, ("or", parts)), "1" if "1" in cube else "0" if cube == "00" else "-")
            self.assertEqual(settled(cube, ("not", parts[0])), {"0": "1", "1": "0", "-": "-"}[a])
            self.assertEqual(settled(cube, ("and", parts[1:])), b)
            self.assertEqual(settled(cube, ("or", parts[1:])), b)


def small_cases():
    """Changes and trees with all plays, where these are few."""
    cases = []
    for n in (1, 2, 3):
        for number, tree in enumerate(chosen_trees(n)):
            changes = all_changes(n)
            for change in changes[number % len(changes)::{1: 1, 2: 5, 3: 29}[n]]:
                plays = plays_of(change, tree)
                if plays is not None:
                    cases.append((change, tree, plays))
    return cases


CASES = small_cases()


def smaller(things, most):
    return things[::1 + len(things) // most]


class PlayTest(unittest.TestCase):
    def test_there_are_enough_cases(self):
        self.assertGreater(len(CASES), 500)
        self.assertGreater(max(len(plays) for _, _, plays in CASES), 200)
        lengths = {len(word) for _, _, plays in CASES for _, word in plays}
        self.assertLessEqual({1, 2, 3, 4, 5}, lengths)

    def test_word_of_play(self):
        for change, tree, plays in CASES:
            for play, word in smaller(plays, 25):
                self.assertEqual(word_of_play(change, tree, play), word, (change, tree, play))
                self.assertIs(is_play(change, tree, play), True, (change, tree, play))

    def test_longest_of_against_all_plays(self):
        for change, tree, plays in CASES:
            found = longest_of(change, tree)
            words = {word for _, word in plays}
            self.assertIn(found, words, (change, tree))
            self.assertTrue(all(cut(word, found) for word in words), (change, tree))
            cube = "".join(a if a == b else "-" for a, b in zip(*change))
            sign = settled(cube, tree)
            self.assertEqual(found, sign if sign != "-" else found)
            self.assertIs(len(found) == 1, sign != "-", (change, tree))

    def test_longest_play_calm_and_flicker(self):
        seen = set()
        for change, tree, plays in CASES:
            play = longest_play(change, tree)
            self.assertIn((play, longest_of(change, tree)), plays, (change, tree))
            steady = not any(too_long(word) for _, word in plays)
            self.assertIs(calm_tree(change, tree), steady, (change, tree))
            found = flicker_play(change, tree)
            self.assertIs(found is None, steady, (change, tree))
            if found is not None:
                self.assertTrue(too_long(dict(plays)[found]), (change, tree))
            seen.add(steady)
        self.assertEqual(seen, {True, False})

    def test_large_trees(self):
        lengths = set()
        trees_of_four = [*chosen_trees(4), wide(240), wide(120, "or", PULSE), wide(120, "and", ("not", PULSE)), tall(8)]
        for number, tree in enumerate(trees_of_four):
            for change in all_changes(4)[number % 40::40]:
                text = longest_of(change, tree)
                self.assertEqual(text, self.combined(change, tree).text)
                play = longest_play(change, tree)
                self.assertEqual(defined_word(change, tree, play), text, (change, tree))
                self.assertEqual(word_of_play(change, tree, play), text, (change, tree))
                self.assertIs(is_play(change, tree, play), True)
                found = flicker_play(change, tree)
                self.assertIs(calm_tree(change, tree), not too_long(text))
                self.assertIs(found is None, not too_long(text))
                if found is not None:
                    self.assertTrue(too_long(defined_word(change, tree, found)))
                lengths.add(len(text))
        self.assertIn(241, lengths)
        self.assertGreater(len(lengths), 5)

    def combined(self, change, tree):
        """What [79] says."""
        parts = parts_of(tree)
        if tree[0] == "not":
            return ~self.combined(change, parts[0])
        if not parts:
            return Word(leaf_word(change, tree))
        words = [self.combined(change, part) for part in parts]
        whole = words[0]
        for word in words[1:]:
            whole = whole & word if tree[0] == "and" else whole | word
        return whole

    def test_by_hand(self):
        rise, fall = ("0", "1"), ("1", "0")
        tree = ("or", (IN, ("not", IN)))
        self.assertEqual(word_of_play(rise, tree, ((0, 1), ((), ()))), "1")
        self.assertEqual(word_of_play(rise, tree, ((1, 0), ((), ()))), "101")
        self.assertEqual(word_of_play(fall, tree, ((0, 1), ((), ()))), "101")
        self.assertEqual(longest_of(rise, PULSE), "010")
        self.assertEqual(longest_of(rise, ("not", PULSE)), "101")
        self.assertEqual(longest_of(rise, ("or", (PULSE, PULSE, IN))), "010101")
        self.assertEqual(longest_of(tree=ONE, change=rise), "1")
        self.assertEqual(word_of_play(tree=IN, play=(), change=("00", "10")), "01")
        self.assertEqual(word_of_play(("00", "01"), IN, ()), "0")
        self.assertIs(calm_tree(tree=PULSE, change=rise), False)
        self.assertIs(calm_tree(rise, ("or", (IN, IN, ONE))), True)
        self.assertIsNone(flicker_play(tree=IN, change=rise))
        self.assertEqual(flicker_play(rise, PULSE), ((0, 1), ((), ())))
        self.assertEqual(longest_play(tree=("not", ("not", IN)), change=rise), ())
        self.assertIs(is_play(thing=(), tree=IN, change=rise), True)


def play_nodes(tree, play, path=()):
    """The nodes that have a play of their own, with their paths and plays: leaves and gates, in the order of checks."""
    if tree[0] == "not":
        return play_nodes(tree[1], play, (*path, 0))
    found = [(path, tree, play)]
    for at, part in enumerate(parts_of(tree)):
        found += play_nodes(part, play[1][at], (*path, at))
    return found


def with_play(tree, play, path, other):
    """The play with another one for the node at the path."""
    if tree[0] == "not":
        return with_play(tree[1], play, path[1:], other)
    if not path:
        return other
    weave, plays = play
    at = path[0]
    below = with_play(tree[1][at], plays[at], path[1:], other)
    return (weave, (*plays[:at], below, *plays[at + 1:]))


def spoiled(change, tree, play):
    """Other plays for a leaf or a gate, wrong at this node itself."""
    things = [thing for thing in no_strings() if not isinstance(thing, tuple) or len(thing) > 0]
    if not parts_of(tree):
        return [*things, ((),), ((), ()), [()], "", (0,), None]
    weave, plays = play
    count = len(plays)
    wrong = [*things, (), (weave,), (plays,), (weave, plays, ()), [weave, plays], {weave: plays}, weave, None]
    wrong += [(list(weave), plays), (weave, list(plays)), (weave, dict(enumerate(plays))), (iter(weave), plays)]
    wrong += [(weave, plays[:-1]), (weave, (*plays, ())), (weave, None), (None, plays), ("", plays), (weave, ())]
    wrong += [((*weave, at), plays) for at in (0, count - 1, count, -1, None, "0", 0.0, False, True, (0,), 10 ** 400)]
    wrong += [((at, *weave), plays) for at in (0, count, -1)]
    for at in range(len(weave)):
        wrong += [((*weave[:at], *weave[at + 1:]), plays)]
        others = [other for other in range(count) if other != weave[at]]
        others += [str(weave[at]), float(weave[at]), None, weave[at] - count, [weave[at]], (weave[at],)]
        others += [bool(weave[at])] if weave[at] < 2 else []
        wrong += [((*weave[:at], other, *weave[at + 1:]), plays) for other in others]
    return wrong


class WrongPlayTest(unittest.TestCase):
    def refused(self, path, change, tree, play):
        self.assertIs(is_play(change, tree, play), False, (change, tree, play))
        with self.assertRaises(InvalidPlay) as caught:
            word_of_play(change, tree, play)
        self.assertEqual(caught.exception.path, path, (change, tree, play))
        self.assertIs(type(caught.exception.path), tuple)

    def test_each_node_spoiled_in_each_way(self):
        count = 0
        cases = [case for case in CASES if 1 < depth_of(case[1]) < 6 and leaves_of(case[1]) < 8]
        for number, (change, tree, plays) in enumerate(cases[::6]):
            play, _ = plays[number % len(plays)]
            for path, node, own in play_nodes(tree, play):
                for other in spoiled(change, node, own)[number % 4::4]:
                    count += 1
                    self.refused(path, change, tree, with_play(tree, play, path, other))
        self.assertGreater(count, 3000)

    def test_the_whole_play_of_some_trees(self):
        rise = ("00", "11")
        gates = (("or", (IN, ("in", 1))), ("and", (PULSE, ("not", PULSE))), ("or", (ONE, ZERO)))
        for tree in (IN, ONE, ("not", IN), *gates):
            play = longest_play(rise, tree)
            for path, node, own in play_nodes(tree, play):
                for other in spoiled(rise, node, own):
                    self.refused(path, rise, tree, with_play(tree, play, path, other))

    def test_the_first_of_two_wrong_nodes(self):
        rise = ("0", "1")
        tree = ("or", (PULSE, ("not", ("and", (IN, IN)))))
        good = longest_play(rise, tree)
        weave, (first, second) = good
        self.assertIs(is_play(rise, tree, good), True)
        # The form of a gate comes before its parts, and these come before its weave.
        self.refused((), rise, tree, (list(weave), (None, None)))
        self.refused((0,), rise, tree, (None and weave or (7,), (None, second)))
        self.refused((1, 0), rise, tree, ((7,), (first, None)))
        self.refused((1, 0), rise, tree, ((), (first, ((), ((), ())))))
        self.refused((0,), rise, tree, (weave, (((0,), first[1]), None)))
        self.refused((0, 1, 0), rise, tree, (weave, ((first[0], ((), ((),))), None)))
        self.refused((0, 0), rise, tree, (weave, (((7,), (None, None)), None)))
        self.refused((), rise, tree, ((7,), (first, second)))
        self.refused((), rise, tree, (weave[:-1], (first, second)))

    def test_a_not_has_no_play_of_its_own(self):
        rise = ("0", "1")
        self.refused((0,), rise, ("not", IN), ((),))
        self.refused((0, 0), rise, ("not", ("not", IN)), None)
        self.refused((0,), rise, ("not", PULSE), ((0, 0), ((), ())))
        self.assertEqual(word_of_play(rise, ("not", PULSE), ((0, 1), ((), ()))), "101")
        self.assertEqual(word_of_play(rise, ("not", PULSE), ((1, 0), ((), ()))), "1")

    def test_parts_that_do_not_turn(self):
        tree = ("or", (IN, ("in", 1), ONE))
        self.assertEqual(word_of_play(("00", "10"), tree, ((0,), ((), (), ()))), "1")
        self.refused((), ("00", "10"), tree, ((1,), ((), (), ())))
        self.refused((), ("00", "10"), tree, ((0, 2), ((), (), ())))
        self.refused((), ("00", "10"), tree, ((), ((), (), ())))
        self.assertEqual(word_of_play(("00", "01"), ("and", (ONE, ZERO)), ((), ((), ()))), "0")


class TreeOfTest(unittest.TestCase):
    def covers(self, n):
        cubes = cube_strings(n)
        some = [[], *[[cube] for cube in cubes], *[list(two) for two in product(cubes[::5], cubes[::7])]]
        return [*some, cubes[:40], cubes[-40:], cubes[::-1][:40], ["-" * n] * 3, ["1" * n] * 40]

    def defined(self, cover):
        trees_of_products = []
        for cube in cover:
            leaves = [("in", i) if sign == "1" else ("not", ("in", i)) for i, sign in enumerate(cube) if sign != "-"]
            trees_of_products.append(leaves[0] if len(leaves) == 1 else ("and", tuple(leaves)) if leaves else ONE)
        if len(trees_of_products) == 1:
            return trees_of_products[0]
        return ("or", tuple(trees_of_products)) if trees_of_products else ZERO

    def test_against_the_words_of_the_document(self):
        for n in SIZES:
            for cover in self.covers(n):
                for given in (cover, tuple(cover)):
                    self.assertEqual(tree_of(n, given), self.defined(cover), cover)
                self.assertIs(is_tree(tree_of(n, cover), n), True)
        self.assertEqual(tree_of(cover=["11", "0-"], n=2), ("or", (("and", (IN, ("in", 1))), ("not", IN))))
        self.assertEqual(tree_of(1, []), ZERO)
        self.assertEqual(tree_of(1, ["-"]), ONE)
        self.assertEqual(tree_of(1, ["-", "-"]), ("or", (ONE, ONE)))
        self.assertEqual(tree_of(3, ["-0-"]), ("not", ("in", 1)))

    def test_against_covered_and_longest(self):
        for n in SIZES:
            for number, cover in enumerate(self.covers(n)):
                tree = tree_of(n, cover)
                for point in point_strings(n):
                    self.assertIs(at_point(point, tree), covered(point, cover), (point, cover))
                for change in all_changes(n)[number % 7::{1: 1, 2: 3, 3: 11, 4: 37}[n]]:
                    self.assertEqual(longest_of(change, tree), longest(change, cover), (change, cover))

    def test_wrong_arguments(self):
        for thing in no_sizes():
            for cover in ([], ["1"], None, ["x"]):
                with self.assertRaises(LimitExceeded) as caught:
                    tree_of(thing, cover)
                self.assertEqual(caught.exception.limit, 4)
        for n in SIZES:
            for thing, at in no_covers(n):
                with self.assertRaises(InvalidCover) as caught:
                    tree_of(n, thing)
                self.assertEqual(caught.exception.at, at, thing)


class WrongArgumentsTest(unittest.TestCase):
    def refused(self, kind, name, worth, call, *things):
        with self.assertRaises(kind) as caught:
            call(*things)
        self.assertEqual(getattr(caught.exception, name), worth, things)

    def any_size(self, wrong):
        """The things that are wrong at each size."""
        return [thing for thing in wrong(4) if not self.right(thing)]

    def right(self, thing):
        cubes = [cube for n in SIZES for cube in cube_strings(n)]
        if isinstance(thing, str):
            return thing in cubes
        return isinstance(thing, tuple) and any(thing in all_changes(n) for n in SIZES)

    def test_points_cubes_and_changes_come_before_trees(self):
        for tree in (IN, None, ("in", 9), ("and", ())):
            for thing in [*self.any_size(no_points), "-", "0-", "1-11"]:
                self.refused(InvalidPoint, "at", 0, at_point, thing, tree)
            for thing in self.any_size(no_cubes):
                self.refused(InvalidCube, "at", 0, settled, thing, tree)
        for tree in (IN, None):
            for thing in self.any_size(no_changes):
                for call in OF_CHANGE_AND_TREE:
                    self.refused(InvalidChange, "at", -1, call, thing, tree)
                for play in ((), None):
                    self.refused(InvalidChange, "at", -1, word_of_play, thing, tree, play)
                    self.refused(InvalidChange, "at", -1, is_play, thing, tree, play)

    def test_trees_come_before_plays(self):
        for n in SIZES:
            change = ("0" * n, "1" * n)
            wrong = ((None, ()), (("not", ("in", n)), (0,)), (("or", (IN, ("and", ()))), (1,)), (wide(241), (240,)))
            for tree, path in wrong:
                for call in OF_CHANGE_AND_TREE:
                    self.refused(InvalidTree, "path", path, call, change, tree)
                for play in ((), None, ((), ())):
                    self.refused(InvalidTree, "path", path, word_of_play, change, tree, play)
                    self.refused(InvalidTree, "path", path, is_play, change, tree, play)
                self.refused(InvalidTree, "path", path, at_point, "1" * n, tree)
                self.refused(InvalidTree, "path", path, settled, "-" * n, tree)

    def test_the_size_is_that_of_the_point_cube_or_change(self):
        for n in SIZES:
            tree = ("and", (IN, ("in", n - 1)))
            for m in SIZES:
                calls = [(call, ("0" * m, "1" * m)) for call in OF_CHANGE_AND_TREE]
                calls += [(at_point, "1" * m), (settled, "-" * m)]
                for call, thing in calls:
                    if n <= m:
                        call(thing, tree)
                    else:
                        self.refused(InvalidTree, "path", (1,), call, thing, tree)
        # Where nothing of a size stands before the tree, it may have four inputs.
        self.assertEqual(measure(("in", 3)), (1, 1))
        self.refused(InvalidTree, "path", (), measure, ("in", 4))

    def test_things_that_are_no_plays(self):
        for thing in no_strings():
            if not (isinstance(thing, tuple) and not thing):
                self.assertIs(is_play(("0", "1"), IN, thing), False, thing)
                self.assertIs(is_play(("0", "1"), PULSE, thing), False, thing)


class InterfaceTest(unittest.TestCase):
    def test_all_is_defined_in_this_file(self):
        calls = (is_tree, measure, at_point, settled, is_play, word_of_play, longest_of, longest_play, calm_tree)
        for call in (*calls, flicker_play, tree_of):
            self.assertEqual(call.__module__, trees.__name__)

    def test_examples_of_the_document(self):
        tree, change = ("or", (IN, ("not", IN))), ("0", "1")
        found = [longest_of(change, tree), settled("-", tree), word_of_play(change, tree, ((0, 1), ((), ())))]
        self.assertEqual(found, ["101", "-", "1"])
        with self.assertRaises(InvalidPlay) as caught:
            word_of_play(change, tree, ((0, 0), ((), ())))
        self.assertEqual(caught.exception.path, ())

    def test_leaves_of_inputs_that_do_not_turn(self):
        for change in all_changes(3):
            for i in range(3):
                expected = change[0][i] + change[1][i] if i in turned_inputs(change) else change[0][i]
                self.assertEqual(longest_of(change, ("in", i)), expected)
                self.assertEqual(longest_of(change, ("not", ("in", i))), opposite(expected))


if __name__ == "__main__":
    unittest.main()
