"""Points and cubes: points [2] to [8] and the interface under steadycover/cubes.py."""

import unittest
from itertools import product

from steadycover import cubes
from steadycover.cubes import (
    all_cubes, consensus, distance, holds, is_cube, is_point, largest, literals, meet, points_of, span,
)
from steadycover.errors import InvalidCube, LimitExceeded
from tests.samples import (
    LONG_STRINGS, SIZES, STRANGE_STRINGS, contained, cube_strings, deep_list, no_sizes, no_strings, point_strings,
)

OF_TWO = (holds, meet, span, distance, consensus)
OF_ONE = (points_of, literals)
POINTS = {cube: contained(cube) for n in SIZES for cube in cube_strings(n)}


def pairs(n):
    """All pairs of cubes of up to three inputs, a fixed choice of those of four."""
    if n < 4:
        return list(product(cube_strings(n), repeat=2))
    some = list(product(cube_strings(4)[::5], cube_strings(4)[::4]))
    return some + [(d, c) for c, d in some]


def opposite(c, d):
    return [i for i in range(len(c)) if sorted((c[i], d[i])) == ["0", "1"]]


class IsPointAndIsCubeTest(unittest.TestCase):
    def test_strings_of_all_sizes(self):
        strings = [text for n in SIZES for text in cube_strings(n)]
        for n in SIZES:
            for text in [*strings, *LONG_STRINGS]:
                self.assertIs(is_cube(text, n), len(text) == n, (text, n))
                self.assertIs(is_point(text, n), len(text) == n and "-" not in text, (text, n))

    def test_strange_strings(self):
        for n in SIZES:
            for text in STRANGE_STRINGS:
                self.assertIs(is_cube(text, n), False, (text, n))
                self.assertIs(is_point(text, n), False, (text, n))

    def test_things_that_are_no_strings(self):
        for n in SIZES:
            for thing in no_strings():
                self.assertIs(is_cube(thing, n), False, (thing, n))
                self.assertIs(is_point(thing, n), False, (thing, n))

    def test_a_thing_is_not_changed(self):
        thing, same = [["0"], deep_list(39)], [["0"], deep_list(39)]
        is_point(thing, 2)
        is_cube(thing, 2)
        self.assertEqual(thing, same)

    def test_arguments_by_name(self):
        self.assertIs(is_point(thing="01", n=2), True)
        self.assertIs(is_point(n=2, thing="0-"), False)
        self.assertIs(is_cube(thing="0-", n=2), True)
        self.assertIs(is_cube(n=3, thing="0-"), False)


class PairsTest(unittest.TestCase):
    def test_holds(self):
        for n in SIZES:
            for c, d in pairs(n):
                self.assertIs(holds(c, d), POINTS[d] <= POINTS[c], (c, d))
                self.assertIs(holds(d, c), POINTS[c] <= POINTS[d], (d, c))

    def test_meet(self):
        for n in SIZES:
            for c, d in pairs(n):
                common = [cube for cube in cube_strings(n) if POINTS[cube] == POINTS[c] & POINTS[d]]
                self.assertEqual(meet(c, d), common[0] if common else None, (c, d))
                self.assertEqual(meet(d, c), meet(c, d), (d, c))

    def test_span(self):
        for n in SIZES:
            for c, d in pairs(n):
                both = POINTS[c] | POINTS[d]
                holders = [cube for cube in cube_strings(n) if both <= POINTS[cube]]
                least = [cube for cube in holders if all(POINTS[cube] <= POINTS[other] for other in holders)]
                self.assertEqual([span(c, d)], least, (c, d))
                self.assertEqual(span(d, c), span(c, d), (d, c))

    def test_distance(self):
        for n in SIZES:
            for c, d in pairs(n):
                found = distance(c, d)
                self.assertIs(type(found), int)
                self.assertEqual(found, len(opposite(c, d)), (c, d))
                self.assertEqual(distance(d, c), found, (d, c))
                self.assertEqual(found == 0, meet(c, d) is not None, (c, d))

    def test_consensus_is_none_or_has_the_signs_of_the_definition(self):
        for n in SIZES:
            for c, d in pairs(n):
                across = consensus(c, d)
                self.assertEqual(consensus(d, c), across, (d, c))
                self.assertEqual(across is None, len(opposite(c, d)) != 1, (c, d))
                for i, sign in enumerate(across or ""):
                    known = {c[i], d[i]} - {"-"}
                    expected = known.pop() if len(known) == 1 else "-"
                    self.assertEqual(sign, expected, (c, d))

    def test_points_of_the_consensus_are_points_of_one_of_both(self):
        for n in SIZES:
            for c, d in pairs(n):
                across = consensus(c, d)
                if across is not None:
                    self.assertLessEqual(POINTS[across], POINTS[c] | POINTS[d], (c, d))

    def test_a_cube_in_both_together_is_held_by_one_of_the_three(self):
        for n in SIZES:
            for c, d in pairs(n):
                three = [cube for cube in (c, d, consensus(c, d)) if cube is not None]
                for cube in cube_strings(n):
                    if POINTS[cube] <= POINTS[c] | POINTS[d]:
                        self.assertTrue(any([holds(one, cube) for one in three]), (c, d, cube))

    def test_a_point_is_a_cube_that_contains_itself_alone(self):
        for n in SIZES:
            for point in point_strings(n):
                self.assertEqual(points_of(point), [point])
                self.assertIs(holds(point, point), True)
                self.assertEqual(meet(point, point), point)

    def test_arguments_by_name(self):
        self.assertIs(holds(c="1-", d="10"), True)
        self.assertIs(holds(d="1-", c="10"), False)
        self.assertEqual(meet(d="-0", c="1-"), "10")
        self.assertEqual(span(d="00", c="01"), "0-")
        self.assertEqual(distance(d="00", c="11"), 2)
        self.assertEqual(consensus(d="0-1", c="1-1"), "--1")


class ListsTest(unittest.TestCase):
    def test_points_of(self):
        for n in SIZES:
            for cube in cube_strings(n):
                self.assertEqual(points_of(cube), sorted(POINTS[cube]), cube)

    def test_literals(self):
        for n in SIZES:
            for cube in cube_strings(n):
                found = literals(cube)
                self.assertIs(type(found), int)
                self.assertEqual(found, len([sign for sign in cube if sign in "01"]), cube)

    def test_all_cubes(self):
        for n in SIZES:
            found = all_cubes(n)
            self.assertEqual(len(found), 3 ** n)
            self.assertEqual(found, sorted(set(cube_strings(n))))
        self.assertEqual(all_cubes(1), ["-", "0", "1"])
        self.assertEqual(all_cubes(2), ["--", "-0", "-1", "0-", "00", "01", "1-", "10", "11"])

    def test_a_list_that_the_caller_changes_comes_whole_the_next_time(self):
        for n in SIZES:
            for call, value in ((all_cubes, n), (points_of, "-" * n), (points_of, "1" * n)):
                first = call(value)
                self.assertIs(type(first), list)
                whole = list(first)
                first.reverse()
                first[0] = "x"
                first.append("y")
                self.assertEqual(call(value), whole)

    def test_arguments_by_name(self):
        self.assertEqual(points_of(cube="1-"), ["10", "11"])
        self.assertEqual(literals(cube="1-"), 1)
        self.assertEqual(all_cubes(n=1), ["-", "0", "1"])

    def test_largest_keeps_what_no_other_holds(self):
        for n in (1, 2):
            every = cube_strings(n)
            for chosen in product((0, 1), repeat=len(every)):
                some = [cube for cube, taken in zip(every, chosen) if taken]
                kept = [cube for cube in some if not any(POINTS[cube] < POINTS[other] for other in some)]
                self.assertEqual(largest(some[::-1] + some), kept, some)


class WrongCubesTest(unittest.TestCase):
    def wrong(self):
        return [*no_strings(), *STRANGE_STRINGS, *LONG_STRINGS]

    def refused(self, at, call, *things, **named):
        with self.assertRaises(InvalidCube) as caught:
            call(*things, **named)
        self.assertEqual(caught.exception.at, at, (call, things, named))

    def test_wrong_in_the_first_place(self):
        for call in OF_TWO:
            for n in SIZES:
                for thing in self.wrong():
                    self.refused(0, call, thing, "1" * n)
            self.refused(0, call, c=None, d="1")

    def test_wrong_in_the_second_place(self):
        for call in OF_TWO:
            for c in ("-", "1", "01", "-0", "---", "1-0", "0101", "----"):
                for thing in self.wrong():
                    self.refused(1, call, c, thing)
            self.refused(1, call, d=None, c="1")

    def test_wrong_in_both_places(self):
        for call in OF_TWO:
            for c in self.wrong():
                self.refused(0, call, c, None)
                self.refused(0, call, c, "2")
                self.refused(0, call, c, "")
                self.refused(0, call, c, c)

    def test_another_size_in_the_second_place(self):
        for call in OF_TWO:
            for n, m in product(SIZES, repeat=2):
                if n != m:
                    for c, d in product(cube_strings(n)[::7], cube_strings(m)[::7]):
                        self.refused(1, call, c, d)

    def test_wrong_and_of_another_size(self):
        for call in OF_TWO:
            self.refused(0, call, "2", "01")
            self.refused(0, call, "", "0")
            self.refused(0, call, "00000", "0")
            self.refused(0, call, "0000-", "00002")
            self.refused(1, call, "00", "002")
            self.refused(1, call, "0000", "0000-")

    def test_wrong_single_cubes(self):
        for call in OF_ONE:
            for thing in self.wrong():
                self.refused(0, call, thing)
            self.refused(0, call, cube=5)

    def test_a_wrong_thing_is_not_changed(self):
        for call in OF_ONE:
            thing = ["0", ["1"]]
            self.refused(0, call, thing)
            self.assertEqual(thing, ["0", ["1"]])

    def test_wrong_sizes(self):
        for thing in no_sizes():
            with self.assertRaises(LimitExceeded) as caught:
                all_cubes(thing)
            self.assertEqual(caught.exception.limit, 4, thing)


class InterfaceTest(unittest.TestCase):
    def test_each_function_is_defined_in_this_file(self):
        for call in (is_point, is_cube, all_cubes, *OF_TWO, *OF_ONE):
            self.assertEqual(call.__module__, cubes.__name__)

    def test_examples_of_the_document(self):
        self.assertEqual(consensus("1-0", "01-"), "-10")
        self.assertEqual(
            [meet("1-0", "01-"), meet("1-0", "-1-"), span("100", "1-1")],
            [None, "110", "1--"],
        )

    def test_the_order_of_the_signs(self):
        self.assertEqual(sorted(["1", "-", "0"]), all_cubes(1))


if __name__ == "__main__":
    unittest.main()
