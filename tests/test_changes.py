"""Changes: points [12] to [17] and the interface under steadycover/changes.py."""

import unittest
from itertools import product

from steadycover import changes
from steadycover.changes import change_cube, is_change, is_plain, is_uneven, nature, plain_changes, turning
from steadycover.errors import InvalidChange
from steadycover.tables import Table
from tests.samples import (
    EIGHTS, SIXTEENS, SIZES, all_changes, all_texts, contained, cube_strings, inside, kind_of, no_changes, no_points,
    no_strings, plain_of, point_strings, shown, single_step_ways, size, turned_inputs, turning_of, turns,
)

# All tables of one and two inputs, a fixed choice of those of three and four.
TEXTS = (*all_texts(1), *all_texts(2), *EIGHTS, "00110101", "01-10111", "1110-111", *SIXTEENS)
CASES = [(text, change) for text in TEXTS for change in all_changes(size(text))]


def broken_conditions(text, change, points):
    """The conditions of [14] that a list of points of the table's size breaks."""
    signs, (start, end) = shown(text), change
    pairs = list(zip(points, points[1:]))
    conditions = {
        "at least two": len(points) >= 2,
        "start": points[:1] == [start],
        "end": points[-1:] == [end],
        "differs": all(a != b for a, b in pairs),
        "span": all(b[i] in (a[i], end[i]) for a, b in pairs for i in range(len(end))),
        "free": all(signs[point] != "-" for point in points),
        "turns": turns(text, points) >= (1 if signs[start] == signs[end] else 2),
    }
    return [name for name, holds in conditions.items() if not holds]


class ChangeTest(unittest.TestCase):
    def test_is_change_for_all_pairs_of_points(self):
        points = [point for n in SIZES for point in point_strings(n)]
        for start, end in product(points, repeat=2):
            for n in SIZES:
                expected = len(start) == len(end) == n and start != end
                self.assertIs(is_change((start, end), n), expected, (start, end, n))

    def test_is_change_of_other_things(self):
        for n in SIZES:
            for thing in no_changes(n):
                self.assertIs(is_change(thing, n), False, (thing, n))

    def test_is_change_leaves_a_thing_as_it_is(self):
        thing = [["0"], ["1"]]
        self.assertIs(is_change(thing, 1), False)
        self.assertIs(is_change((thing, thing), 1), False)
        self.assertEqual(thing, [["0"], ["1"]])

    def test_change_cube(self):
        for n in SIZES:
            for change in all_changes(n):
                cube = change_cube(change)
                self.assertIn(cube, cube_strings(n))
                self.assertEqual(sorted(contained(cube)), inside(change), change)
                self.assertEqual(cube.count("-"), len(turned_inputs(change)), change)

    def test_arguments_by_name(self):
        table, change = Table("0001"), ("00", "11")
        self.assertIs(is_change(n=2, thing=change), True)
        self.assertEqual(change_cube(change=change), "--")
        self.assertEqual(nature(change=change, table=table), ("rise",))
        self.assertIs(is_plain(change=change, table=table), True)
        self.assertIs(is_uneven(points=["00", "11"], change=change, table=table), False)
        self.assertEqual(turning(change=change, table=table), "11")
        self.assertEqual(plain_changes(table=Table("0-")), [])


class NatureTest(unittest.TestCase):
    def test_all_cases(self):
        seen = {}
        for text, change in CASES:
            found, kind = nature(Table(text), change), kind_of(text, change)
            self.assertIs(type(found), tuple)
            self.assertEqual(found[0], kind, (text, change))
            self.assertEqual(len(found), 2 if kind in ("free", "uneven") else 1, (text, change))
            seen[size(text), kind] = True
        for n in SIZES:
            for kind in ("free", "uneven", "low", "high", "rise", "fall"):
                self.assertEqual((n, kind) in seen, n > 1 or kind != "uneven", (n, kind))

    def test_free_names_the_least_free_point(self):
        for text, change in CASES:
            if kind_of(text, change) == "free":
                frees = [point for point in inside(change) if shown(text)[point] == "-"]
                self.assertEqual(nature(Table(text), change), ("free", frees[0]), (text, change))

    def test_free_comes_before_uneven(self):
        self.assertEqual(nature(Table("01-0"), ("00", "11")), ("free", "10"))
        self.assertEqual(nature(Table("-1-0"), ("11", "00")), ("free", "00"))

    def test_the_told_list_shows_it(self):
        for text, change in CASES:
            if kind_of(text, change) == "uneven":
                points = nature(Table(text), change)[1]
                self.assertIs(type(points), list)
                self.assertEqual(broken_conditions(text, change, points), [], (text, change, points))
                self.assertIs(is_uneven(Table(text), change, points), True, (text, change))
                self.assertIs(is_uneven(Table(text), change, tuple(points)), True, (text, change))

    def test_the_told_list_is_new_on_each_call(self):
        for text, change in CASES[::3]:
            if kind_of(text, change) == "uneven":
                table = Table(text)
                first = nature(table, change)[1]
                whole = list(first)
                first.reverse()
                first.append("x")
                self.assertEqual(nature(table, change)[1], whole)
                self.assertEqual(table, Table(text))

    def test_plain_turning_and_plain_changes(self):
        for text in TEXTS:
            table, plain = Table(text), plain_of(text)
            for change in all_changes(table.n):
                self.assertIs(is_plain(table, change), change in plain, (text, change))
                self.assertEqual(turning(table, change), turning_of(text, change), (text, change))
            found = plain_changes(table)
            self.assertIs(type(found), list)
            self.assertEqual(found, plain, text)
            self.assertEqual(found, sorted(set(found)), text)
            found.append("x")
            self.assertEqual(plain_changes(table), plain, text)

    def test_turning_of_each_nature(self):
        table = Table("01010-11")
        self.assertEqual(turning(table, ("000", "001")), "001")
        self.assertEqual(turning(table, ("001", "000")), "001")
        self.assertIsNone(turning(table, ("000", "010")))
        self.assertIsNone(turning(table, ("110", "111")))
        self.assertIsNone(turning(table, ("100", "101")))
        self.assertIsNone(turning(table, ("000", "101")))
        self.assertIsNone(turning(Table("0110"), ("00", "11")))
        self.assertIsNone(turning(Table("01100111"), ("000", "111")))

    def test_no_and_all_changes_are_plain(self):
        for n in SIZES:
            texts = {"1": all_changes(n), "0": all_changes(n), "-": []}
            for sign, expected in texts.items():
                self.assertEqual(plain_changes(Table(sign * 2 ** n)), expected)

    def test_uneven_exactly_in_the_cases_of_the_document(self):
        for text, change in CASES:
            signs, (start, end) = shown(text), change
            if kind_of(text, change) == "free":
                continue
            if signs[start] == signs[end]:
                expected = any(signs[point] != signs[start] for point in inside(change))
            else:
                expected = any(
                    signs[x] == signs[end] and signs[y] == signs[start]
                    for x in inside(change) if x != end for y in inside((x, end))
                )
            self.assertEqual(nature(Table(text), change)[0] == "uneven", expected, (text, change))


class UnevenTest(unittest.TestCase):
    def judged(self, text, change, points):
        broken = broken_conditions(text, change, points)
        for thing in (points, tuple(points)):
            self.assertIs(is_uneven(Table(text), change, thing), not broken, (text, change, thing))
        return broken

    def test_all_short_lists_of_points(self):
        alone, good = set(), set()
        for n, step in ((1, 1), (2, 2)):
            lists = [list(points) for k in range(5) for points in product(point_strings(n), repeat=k)]
            for text in all_texts(n)[::step]:
                for change in all_changes(n):
                    for points in lists:
                        broken = self.judged(text, change, points)
                        if len(broken) == 1:
                            alone.update(broken)
                        if not broken:
                            good.add((n, "-" in text))
        self.assertEqual(alone, {"start", "end", "differs", "span", "free", "turns"})
        self.assertEqual(good, {(2, False), (2, True)})

    def test_single_step_ways(self):
        for text, change in CASES:
            for way in single_step_ways(change)[::5]:
                self.judged(text, change, way)
                self.judged(text, change, way[1:])
                self.judged(text, change, way[:-1])
                self.judged(text, change, [way[0], *way])
                self.judged(text, change, [*way, way[-1]])
                self.judged(text, change, way[:-1] + way[:1] + way[-1:])
                self.judged(text, change, way[::-1])

    def test_lists_that_break_one_condition(self):
        text, change = "01100110", ("000", "111")
        good = ["000", "001", "011", "111"]
        self.assertEqual(shown(text)["011"], "0")
        rows = {
            "start": ["001", "011", "111"],
            "end": ["000", "001", "011"],
            "differs": ["000", "001", "001", "111"],
            "span": ["000", "001", "010", "110", "111"],
        }
        self.assertEqual(self.judged(text, change, good), [])
        for name, points in rows.items():
            self.assertEqual(self.judged(text, change, points), [name], name)
        self.assertEqual(self.judged("01101000", change, ["000", "001", "100", "111"]), ["span"])
        self.assertEqual(self.judged("01100-10", change, ["000", "001", "101", "111"]), ["free"])
        self.assertEqual(self.judged("00000001", change, good), ["turns"])
        self.assertEqual(self.judged("01110001", change, good), ["turns"])
        self.assertEqual(self.judged("01100110", change, ["000", "111"]), ["turns"])
        self.assertEqual(self.judged("01010111", change, ["000", "011", "111"]), ["turns"])

    def test_steps_of_several_inputs(self):
        self.assertIs(is_uneven(Table("0110"), ("00", "11"), ["00", "10", "11"]), True)
        self.assertIs(is_uneven(Table("00010000"), ("000", "111"), ["000", "011", "111"]), True)
        self.assertIs(is_uneven(Table("0000000000010000"), ("0000", "1111"), ("0000", "1011", "1111")), True)
        self.assertIs(is_uneven(Table("0000000000000000"), ("0000", "1111"), ("0000", "1011", "1111")), False)
        self.assertIs(is_uneven(Table("01010111"), ("000", "111"), ["000", "001", "110", "111"]), False)

    def test_a_change_whose_cube_has_a_free_point(self):
        table, change = Table("01-0"), ("00", "11")
        self.assertEqual(nature(table, change), ("free", "10"))
        self.assertIs(is_uneven(table, change, ["00", "01", "11"]), True)
        self.assertIs(is_uneven(table, change, ["00", "10", "11"]), False)
        self.assertIs(is_uneven(table, change, ["00", "11"]), False)
        for text in ("-100", "010-", "-10-", "-110", "011-"):
            for points in (["00", "01", "11"], ["00", "10", "11"], ["00", "11"]):
                self.assertIs(is_uneven(Table(text), change, points), False, (text, points))

    def test_a_wrong_item_at_each_place(self):
        table, change = Table("01100110"), ("000", "111")
        good = ["000", "001", "011", "111"]
        self.assertIs(is_uneven(table, change, good), True)
        for thing in no_points(3):
            for at in range(len(good) + 1):
                inserted = [*good[:at], thing, *good[at:]]
                replaced = [*good[:at], thing, *good[at + 1:]]
                for points in (inserted, replaced, tuple(inserted), tuple(replaced)):
                    self.assertIs(is_uneven(table, change, points), False, points)

    def test_things_that_are_no_lists(self):
        table, change = Table("0110"), ("00", "11")
        good = ["00", "10", "11"]
        others = [
            dict.fromkeys(good), {point: point for point in good}, set(good), frozenset(good), iter(good),
            (point for point in good), "001011", "00 10 11", ["001011"], [good], (good,), [tuple(good)],
            [], (), ["00"], ["11"], ("00",), "".join(good), [list(point) for point in good], [b"00", b"10", b"11"],
        ]
        for thing in [*others, *no_strings(), *no_points(2)]:
            self.assertIs(is_uneven(table, change, thing), False, thing)

    def test_the_points_stay_as_they_are(self):
        points = ["00", "10", "11"]
        self.assertIs(is_uneven(Table("0110"), ("00", "11"), points), True)
        self.assertEqual(points, ["00", "10", "11"])


class WrongChangesTest(unittest.TestCase):
    def refused(self, call, *things, **named):
        with self.assertRaises(InvalidChange) as caught:
            call(*things, **named)
        self.assertEqual(caught.exception.at, -1, (call, things, named))

    def test_change_cube(self):
        every = [change for n in SIZES for change in all_changes(n)]
        for n in SIZES:
            for thing in no_changes(n):
                if thing not in every:
                    self.refused(change_cube, thing)
        self.refused(change_cube, ("00000", "00001"))
        self.refused(change_cube, ("", "0"))
        self.refused(change_cube, change=None)

    def test_with_a_table(self):
        for text in ("01", "0110", "01-10011", "0110100110010110"):
            table = Table(text)
            for thing in no_changes(table.n):
                self.refused(nature, table, thing)
                self.refused(is_plain, table, thing)
                self.refused(turning, table, thing)
                self.refused(is_uneven, table, thing, ["0" * table.n, "1" * table.n])
            self.refused(nature, change=None, table=table)

    def test_a_wrong_change_comes_before_wrong_points(self):
        for thing in (None, ("00", "00"), ["00", "11"], ("0", "1"), ("00", "1-")):
            for points in no_strings():
                self.refused(is_uneven, Table("0110"), thing, points)


class InterfaceTest(unittest.TestCase):
    def test_each_function_is_defined_in_this_file(self):
        for call in (is_change, change_cube, nature, is_plain, is_uneven, turning, plain_changes):
            self.assertEqual(call.__module__, changes.__name__)

    def test_examples_of_the_document(self):
        self.assertEqual(nature(Table("01010011"), ("011", "111")), ("high",))
        self.assertIs(is_uneven(Table("0110"), ("00", "11"), ["00", "10", "11"]), True)


if __name__ == "__main__":
    unittest.main()
