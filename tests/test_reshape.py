"""Reshaping trees: points [82] to [85] and the interface under steadycover/reshape.py."""

import unittest
from itertools import product

from steadycover import reshape
from steadycover.errors import InvalidTree, LimitExceeded, NothingLeft
from steadycover.reshape import calmer, flattened, shared, spread, turned_in
from steadycover.trees import at_point, calm_tree, is_tree, longest_of, measure, settled
from tests.samples import SIZES, all_changes, cube_strings, no_sizes, point_strings
from tests.some_trees import (
    IN, ONE, PULSE, ZERO, chosen_trees, depth_of, leaves_of, no_nodes, nodes_of, parts_of, tall, wide, with_node,
)

A, B, C, D = [("in", i) for i in range(4)]
RESHAPES = (turned_in, flattened)
# Trees with a place for another tree, and the path of the place.
HOSTS = (
    (lambda tree: tree, ()),
    (lambda tree: ("not", tree), (0,)),
    (lambda tree: ("and", (A, tree, B)), (1,)),
    (lambda tree: ("or", (tree, A)), (0,)),
    (lambda tree: ("or", (A, ("not", ("and", (B, C, tree))))), (1, 0, 2)),
)


def pairs():
    """A shared tree and the spread tree that it comes from."""
    some = [A, ONE, ZERO, ("not", B), PULSE, ("or", (A, B)), ("and", (A, ("or", (B, C)))), tall(3, C)]
    found = []
    for first in some:
        for ys in [(y,) for y in some] + [(y, z) for y in some[::2] for z in some[1::2]] + [tuple(some), (A, A, A)]:
            found.append((("and", (first, ("or", ys))), ("or", tuple(("and", (first, y)) for y in ys))))
    return found


PAIRS = pairs()


def answers(tree, n):
    """The values and the settled signs of the tree."""
    points, cubes = point_strings(n), cube_strings(n)
    return [at_point(point, tree) for point in points], [settled(cube, tree) for cube in cubes[::1 if n < 4 else 3]]


class SharedAndSpreadTest(unittest.TestCase):
    def test_they_undo_each_other(self):
        for number, (less, more) in enumerate(PAIRS):
            for host, path in HOSTS if number % 3 == 0 else HOSTS[:1]:
                self.assertEqual(spread(host(less), path), host(more), (less, path))
                self.assertEqual(shared(host(more), path), host(less), (more, path))
                self.assertIs(is_tree(spread(host(less), path), 4), True)

    def test_by_hand(self):
        self.assertEqual(shared(path=(), tree=("or", (("and", (A, B)), ("and", (A, C))))), ("and", (A, ("or", (B, C)))))
        self.assertEqual(spread(path=(), tree=("and", (A, ("or", (B, C))))), ("or", (("and", (A, B)), ("and", (A, C)))))
        # One part is enough, and an or that is a part of its own is spread as the last part alone.
        self.assertEqual(shared(("or", (("and", (A, B)),)), ()), ("and", (A, ("or", (B,)))))
        self.assertEqual(spread(("and", (("or", (A, B)), ("or", (C, D)))), ()),
                         ("or", (("and", (("or", (A, B)), C)), ("and", (("or", (A, B)), D)))))
        self.assertEqual(spread(("not", ("and", (A, ("or", (B,))))), (0,)), ("not", ("or", (("and", (A, B)),))))

    def test_values_and_words(self):
        fewer = 0
        for less, more in PAIRS[::3]:
            for host, _ in HOSTS[:4]:
                self.assertEqual(answers(host(less), 4), answers(host(more), 4))
            for change in all_changes(4)[::7]:
                short, long = longest_of(change, less), longest_of(change, more)
                self.assertLessEqual(len(short), len(long), (less, change))
                fewer += len(short) < len(long)
        self.assertGreater(fewer, 10)

    def nothing(self, tree, path, calls=(shared, spread)):
        for call in calls:
            with self.assertRaises(NothingLeft) as caught:
                call(tree, path)
            self.assertEqual(caught.exception.word, call.__name__, (tree, path))

    def test_each_other_path(self):
        for less, more in PAIRS[::11]:
            for tree, call, other in ((less, spread, shared), (more, shared, spread)):
                for host, path in HOSTS:
                    whole = host(tree)
                    for place, node in nodes_of(whole):
                        # Past the parts of each node, and on below each leaf.
                        count = len(parts_of(node))
                        for beyond in ((count,), (count, 0), (count + 1,), (999,), (10 ** 400,), (count, 0, 0, 0, 0)):
                            self.nothing(whole, (*place, *beyond))
                        if place == path:
                            self.assertNotEqual(call(whole, place), whole)
                        elif not self.can_share(node):
                            self.nothing(whole, place, (shared,))
                        if place != path and not self.can_spread(node):
                            self.nothing(whole, place, (spread,))

    def can_share(self, node):
        parts = parts_of(node)
        ands = [part for part in parts if part[0] == "and" and len(part[1]) == 2]
        return node[0] == "or" and len(ands) == len(parts) and len({part[1][0] for part in ands}) == 1

    def can_spread(self, node):
        return node[0] == "and" and len(node[1]) == 2 and node[1][1][0] == "or"

    def test_all_nodes_of_many_trees(self):
        shares = spreads = 0
        for n in SIZES:
            for tree in chosen_trees(n):
                for path, node in nodes_of(tree):
                    if self.can_share(node):
                        shares += 1
                        first = node[1][0][1][0]
                        new = ("and", (first, ("or", tuple(part[1][1] for part in node[1]))))
                        self.assertEqual(shared(tree, path), with_node(tree, path, new))
                        self.assertEqual(spread(shared(tree, path), path), tree)
                    else:
                        self.nothing(tree, path, (shared,))
                    if self.can_spread(node):
                        spreads += 1
                        new = ("or", tuple(("and", (node[1][0], part)) for part in node[1][1][1]))
                        whole = with_node(tree, path, new)
                        if leaves_of(whole) <= 240 and depth_of(whole) <= 8:
                            self.assertEqual(spread(tree, path), whole)
                            self.assertEqual(shared(whole, path), tree)
                    else:
                        self.nothing(tree, path, (spread,))
        self.assertGreater(min(shares, spreads), 10)

    def test_near_misses(self):
        part = ("and", (A, B))
        for tree in (
            ("or", (part, A)), ("or", (A, part)), ("or", (part, ("and", (A,)))), ("or", (("and", (A,)),)),
            ("or", (part, ("and", (A, B, C)))), ("or", (("and", (A, B, C)), ("and", (A, B, C)))), ("or", (A, A)),
            ("or", (part, ("and", (C, B)))), ("or", (part, ("and", (B, A)))), ("or", (part, ("or", (A, B)))),
            ("or", (("or", (A, B)), ("or", (A, C)))), ("and", (part, part)), ("not", ("or", (part, part))),
            ("or", (part, ("not", part))),
            ("or", (("and", (("not", A), B)), ("and", (A, B)))), ("or", (part, part, part, ("and", (("in", 2), B)))),
            ("or", (ONE, part)), ("or", (part, ONE)), part, A, ONE, ("or", (("not", A),)),
            ("and", (A, ("and", (B, C)))),
        ):
            self.nothing(tree, (), (shared,))
        either = ("or", (B, C))
        for tree in (
            ("and", (either, A)), ("and", (A, either, B)), ("and", (either,)), ("or", (A, either)), ("and", (A, B)),
            ("and", (A, ("not", either))), ("and", (A, ("and", (B, either)))), ("not", ("and", (A, either))), either,
            A, ONE,
            ("and", (A, A, either)), ("and", (A, ONE)), ("and", (A, ("not", B))), ("or", (("and", (A, B)),)), ZERO,
        ):
            self.nothing(tree, (), (spread,))

    def test_more_than_240_leaves(self):
        for ys, wide_first, limit in (
            (120, 1, None), (121, 1, 240), (239, 1, 240), (2, 119, None), (2, 120, 240), (1, 239, None),
            (15, 15, None), (16, 14, None), (15, 16, 240), (16, 15, 240),
        ):
            first = A if wide_first == 1 else ("or", (A,) * wide_first)
            tree = ("and", (first, ("or", (B,) * ys)))
            self.refused(tree, (), limit)
        # The rest of the tree counts also.
        tree = ("and", (A, ("or", (B,) * 60)))
        self.refused(("or", (tree, *(A,) * 120)), (0,), None)
        self.refused(("or", (tree, *(A,) * 121)), (0,), 240)
        self.assertEqual(measure(("or", (tree, *(A,) * 121))), (182, 4))

    def refused(self, tree, path, limit):
        self.assertIs(is_tree(tree, 4), True)
        if limit is None:
            found = spread(tree, path)
            self.assertIs(is_tree(found, 4), True)
            self.assertEqual(shared(found, path), tree)
            return
        with self.assertRaises(LimitExceeded) as caught:
            spread(tree, path)
        self.assertEqual(caught.exception.limit, limit, (tree, path))

    def test_more_than_eight_levels(self):
        for deep in range(1, 8):
            first = tall(deep, A)
            self.refused(("and", (first, ("or", (B, C)))), (), None if deep < 7 else 8)
            # Behind the or nothing becomes deeper.
            if deep < 7:
                self.refused(("and", (A, ("or", (first, C)))), (), None)
        for deep in range(1, 7):
            tree = ("not", ("and", (tall(deep, A), ("or", (B, C)))))
            self.refused(tree, (0,), None if deep < 6 else 8)
        # Something elsewhere in the tree is eight deep.
        tree = ("or", (tall(7), ("and", (A, ("or", (B, C))))))
        self.refused(tree, (1,), None)

    def test_too_many_leaves_come_before_too_many_levels(self):
        first = ("and", (tall(6, A), *(A,) * 100))
        self.assertEqual(depth_of(first), 7)
        self.refused(("and", (first, ("or", (B, C)))), (), 8)
        self.refused(("and", (first, ("or", (B, C, D)))), (), 240)
        self.refused(("and", (("or", (A,) * 100), ("or", (B, C, D)))), (), 240)

    def test_shared_at_the_limits(self):
        part = ("and", (A, tall(6, B)))
        self.assertEqual(shared(("or", (part, part)), ()), ("and", (A, ("or", (tall(6, B), tall(6, B))))))
        part = ("and", (tall(6, B), A))
        self.assertEqual(shared(("or", (part,) * 120), ()), ("and", (tall(6, B), ("or", (A,) * 120))))


class TurnedInTest(unittest.TestCase):
    def test_nots_stand_over_leaves_alone(self):
        for n in SIZES:
            for tree in chosen_trees(n):
                found = turned_in(tree)
                for _, node in nodes_of(found):
                    if node[0] == "not":
                        self.assertEqual(node[1][0], "in", (tree, found))
                self.assertIs(is_tree(found, n), True)
                self.assertEqual(found, self.defined(tree, False), tree)
                self.assertEqual(turned_in(found), found)

    def defined(self, tree, opposite):
        if tree[0] == "not":
            return self.defined(tree[1], not opposite)
        if tree[0] == "in":
            return ("not", tree) if opposite else tree
        word = {"and": "or", "or": "and", "one": "zero", "zero": "one"}[tree[0]] if opposite else tree[0]
        return (word, tuple(self.defined(part, opposite) for part in parts_of(tree))) if parts_of(tree) else (word,)

    def test_by_hand(self):
        for tree, expected in (
            (A, A), (ONE, ONE), (("not", A), ("not", A)), (("not", ONE), ZERO), (("not", ZERO), ONE),
            (("not", ("not", A)), A), (("not", ("not", ("not", A))), ("not", A)), (("not", ("not", ONE)), ONE),
            (("not", ("and", (A, B))), ("or", (("not", A), ("not", B)))),
            (("not", ("or", (A, ("not", B)))), ("and", (("not", A), B))),
            (("and", (A, ("not", ("or", (B,))))), ("and", (A, ("and", (("not", B),))))),
            (("not", ("and", (("or", (A, ZERO)), ("not", ("and", (B, C)))))),
             ("or", (("and", (("not", A), ONE)), ("and", (B, C))))),
        ):
            self.assertEqual(turned_in(tree), expected)
        self.assertEqual(turned_in(tree=("not", wide(240, "and", A))), wide(240, "or", ("not", A)))


class FlattenedTest(unittest.TestCase):
    def test_no_gate_has_one_part_or_a_part_of_its_kind(self):
        for n in SIZES:
            for tree in chosen_trees(n):
                found = flattened(tree)
                for _, node in nodes_of(found):
                    if node[0] in ("and", "or"):
                        self.assertGreater(len(node[1]), 1)
                        self.assertNotIn(node[0], [part[0] for part in node[1]])
                self.assertEqual([word for word in self.leaves(found)], [word for word in self.leaves(tree)], tree)
                self.assertIs(is_tree(found, n), True)
                self.assertEqual(found, self.defined(tree), tree)
                self.assertEqual(flattened(found), found)

    def leaves(self, tree):
        return [node for _, node in nodes_of(tree) if not parts_of(node)]

    def defined(self, tree):
        """The steps of [84], one at a time, until none is left."""
        for path, node in nodes_of(tree)[::-1]:
            if node[0] in ("and", "or"):
                if len(node[1]) == 1:
                    return self.defined(with_node(tree, path, node[1][0]))
                for at, part in enumerate(node[1]):
                    if part[0] == node[0]:
                        new = (node[0], (*node[1][:at], *part[1], *node[1][at + 1:]))
                        return self.defined(with_node(tree, path, new))
        return tree

    def test_by_hand(self):
        for tree, expected in (
            (A, A), (ZERO, ZERO), (("and", (A,)), A), (("or", (("and", (A,)),)), A), (("or", (A, B)), ("or", (A, B))),
            (("and", (A, ("and", (B, C)), D)), ("and", (A, B, C, D))),
            (("and", (("and", (("and", (A, B)), C)), D)), ("and", (A, B, C, D))),
            (("and", (A, ("or", (B, C)))), ("and", (A, ("or", (B, C))))),
            (("and", (A, ("or", (("and", (B, C)),)))), ("and", (A, B, C))),
            (("not", ("and", (("not", ("or", (A,))),))), ("not", ("not", A))),
            (("and", (A, ("not", ("and", (B, C))))), ("and", (A, ("not", ("and", (B, C)))))),
            (("or", (("and", (("or", (A, B)),)),)), ("or", (A, B))),
            (("or", (A, ("not", ("or", (("or", (B, C)),))))), ("or", (A, ("not", ("or", (B, C)))))),
        ):
            self.assertEqual(flattened(tree), expected, tree)
        tree = ("or", (wide(120, "or", A), wide(120, "or", B)))
        self.assertEqual(flattened(tree=tree), ("or", (A,) * 120 + (B,) * 120))


class SameAnswersTest(unittest.TestCase):
    def test_turned_in_and_flattened(self):
        for n in SIZES:
            for number, tree in enumerate(chosen_trees(n)[::2]):
                for call in RESHAPES:
                    found = call(tree)
                    self.assertEqual(answers(found, n), answers(tree, n), (call, tree))
                    for change in all_changes(n)[number % 20::20] if n > 2 else all_changes(n):
                        self.assertEqual(longest_of(change, found), longest_of(change, tree), (call, tree, change))


class CalmerTest(unittest.TestCase):
    def defined(self, n, one, other):
        for change in all_changes(n):
            if calm_tree(change, other) and not calm_tree(change, one):
                return change
        return None

    def test_against_calm_tree(self):
        seen = set()
        for n in (1, 2, 3):
            trees = chosen_trees(n)[::{1: 9, 2: 13, 3: 41}[n]]
            for one, other in product(trees, repeat=2):
                found = calmer(n, one, other)
                self.assertEqual(found, self.defined(n, one, other), (one, other))
                seen.add((n, found is None))
        self.assertEqual(len(seen), 6)
        trees = chosen_trees(4)[5::60]
        for one, other in zip(trees, trees[1:]):
            self.assertEqual(calmer(4, one, other), self.defined(4, one, other), (one, other))

    def test_by_hand(self):
        part = ("and", (A, ("not", B)))
        less, more = ("and", (A, ("or", (("not", B), ("not", B))))), ("or", (part, part))
        self.assertEqual(calmer(2, more, shared(more, ())), None)
        self.assertEqual(calmer(2, shared(more, ()), more), None)
        self.assertEqual(less, shared(more, ()))
        self.assertEqual(calmer(2, part, A), ("00", "11"))
        self.assertEqual(calmer(2, A, part), None)
        self.assertEqual(calmer(other=IN, one=PULSE, n=1), ("0", "1"))
        self.assertEqual(calmer(1, IN, PULSE), None)
        self.assertEqual(calmer(2, PULSE, IN), ("00", "10"))
        self.assertEqual(calmer(4, ("and", (C, ("not", C))), ONE), ("0000", "0010"))

    def test_the_large_side(self):
        self.assertEqual(calmer(4, wide(120, "or", PULSE), wide(240)), ("0000", "1000"))
        self.assertIsNone(calmer(4, wide(240), wide(120, "or", PULSE)))

    def test_wrong_arguments(self):
        for thing in no_sizes():
            for one, other in ((A, A), (None, A), (A, None)):
                with self.assertRaises(LimitExceeded) as caught:
                    calmer(thing, one, other)
                self.assertEqual(caught.exception.limit, 4)
        for n in SIZES:
            for thing in [*no_nodes(n)[::3], ("in", n)]:
                self.refused((), calmer, n, thing, A)
                self.refused((), calmer, n, A, thing)
                self.refused((0,), calmer, n, ("not", thing), thing)
                self.refused((0,), calmer, n, A, ("not", thing))
                self.refused((), calmer, n, thing, ("not", thing))

    def refused(self, path, call, *things):
        with self.assertRaises(InvalidTree) as caught:
            call(*things)
        self.assertEqual(caught.exception.path, path, things)


class WrongTreesTest(unittest.TestCase):
    def test_each_function(self):
        for thing in no_nodes(4):
            ands = ("or", (("and", (A, A)), ("and", (A, thing))))
            for tree, path in ((thing, ()), (("not", thing), (0,)), (ands, (1, 1))):
                for call in RESHAPES:
                    CalmerTest().refused(path, call, tree)
                for call in (shared, spread):
                    CalmerTest().refused(path, call, tree, ())
                    CalmerTest().refused(path, call, tree, (9, 9))
        for call in RESHAPES:
            self.assertEqual(call(("in", 3)), ("in", 3))
            CalmerTest().refused((240,), call, wide(241))
            CalmerTest().refused((0,) * 8, call, tall(9))


class InterfaceTest(unittest.TestCase):
    def test_all_is_defined_in_this_file(self):
        for call in (shared, spread, turned_in, flattened, calmer):
            self.assertEqual(call.__module__, reshape.__name__)

    def test_examples_of_the_document(self):
        part = ("and", (A, ("not", B)))
        tree, change = ("or", (part, part)), ("00", "11")
        self.assertEqual([longest_of(change, tree), longest_of(change, shared(tree, ()))], ["01010", "010"])
        self.assertEqual(flattened(("or", (("or", (A, ONE)), ("and", (B,))))), ("or", (A, ONE, B)))
        self.assertEqual(turned_in(("not", ("and", (A, ("not", ONE))))), ("or", (("not", A), ONE)))


if __name__ == "__main__":
    unittest.main()
