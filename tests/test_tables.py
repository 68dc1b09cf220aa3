"""Tables: points [9] to [11] and the interface under steadycover/tables.py."""

import unittest
from itertools import product

from steadycover import tables
from steadycover.errors import InvalidPoint, InvalidTable
from steadycover.tables import Table
from tests.samples import (
    EIGHTS, LENGTHS, LONG_STRINGS, SIXTEENS, STRANGE_STRINGS,
    all_texts, contained, cube_strings, no_sizes, no_strings, point_strings, shown, size,
)


def chosen_texts():
    return [*all_texts(1), *all_texts(2), *EIGHTS, *SIXTEENS]


def with_sign(text, sign):
    return [point for point in point_strings(size(text)) if shown(text)[point] == sign]


def defined_primes(text):
    offs = set(with_sign(text, "0"))
    clear = {cube: contained(cube) for cube in cube_strings(size(text)) if not contained(cube) & offs}
    return [cube for cube in clear if not any(clear[cube] < clear[other] for other in clear)]


class TableTest(unittest.TestCase):
    def test_text_and_n(self):
        for text in chosen_texts():
            table = Table(text)
            self.assertEqual(table.text, text)
            self.assertIs(type(table.n), int)
            self.assertEqual(2 ** table.n, len(text))
        self.assertEqual(vars(Table(text="01")), {"text": "01", "n": 1})

    def test_value_at_each_point(self):
        for text in chosen_texts():
            table, signs = Table(text), shown(text)
            for point in point_strings(table.n):
                self.assertEqual(table.value(point), signs[point], (text, point))
        self.assertEqual(Table("0100").value("01"), "1")
        self.assertEqual(Table("0-00000000000000").value(point="0001"), "-")

    def test_ons_offs_and_frees(self):
        for text in chosen_texts():
            table = Table(text)
            self.assertEqual(table.ons(), with_sign(text, "1"), text)
            self.assertEqual(table.offs(), with_sign(text, "0"), text)
            self.assertEqual(table.frees(), with_sign(text, "-"), text)

    def test_primes(self):
        for text in chosen_texts():
            self.assertEqual(Table(text).primes(), defined_primes(text), text)
        self.assertEqual(Table("00").primes(), [])
        self.assertEqual(Table("--").primes(), ["-"])
        self.assertEqual(Table("1-").primes(), ["-"])
        self.assertEqual(Table("0-").primes(), ["1"])

    def test_lists_that_the_caller_changes(self):
        for text in ("1-", "01-1", "01-10-01", "0-1-0-1-10-01-01"):
            table = Table(text)
            for call in (table.ons, table.offs, table.frees, table.primes):
                first = call()
                self.assertIs(type(first), list)
                whole = list(first)
                first.insert(0, "x")
                first.append("y")
                self.assertEqual(call(), whole)
            self.assertEqual(table, Table(text))

    def test_a_table_is_not_changed_by_its_methods(self):
        table, other = Table("01-1"), Table("-1-1")
        table.value("00")
        table.refines(other)
        table.primes()
        self.assertEqual(vars(table), {"text": "01-1", "n": 2})
        self.assertEqual(vars(other), {"text": "-1-1", "n": 2})


class RefinesTest(unittest.TestCase):
    def refines(self, t, u):
        signs, theirs = shown(t), shown(u)
        return len(t) == len(u) and all(theirs[p] == "-" or theirs[p] == signs[p] for p in theirs)

    def test_all_pairs_of_small_tables_both_ways(self):
        small = [*all_texts(1), *all_texts(2)[::2]]
        for t, u in product(small, repeat=2):
            self.assertIs(Table(t).refines(Table(u)), self.refines(t, u), (t, u))

    def test_pairs_of_large_tables_both_ways(self):
        for texts in (EIGHTS, SIXTEENS):
            for t in texts:
                for u in [*texts, t.replace("0", "-"), t.replace("-", "1"), "-" + t[1:], t[:-1] + "-"]:
                    self.assertIs(Table(t).refines(Table(u)), self.refines(t, u), (t, u))
                    self.assertIs(Table(u).refines(Table(t)), self.refines(u, t), (u, t))

    def test_another_size_is_never_refined(self):
        for n, m in product((1, 2, 3, 4), repeat=2):
            for t, u in product("01-", repeat=2):
                mine, theirs = Table(t * LENGTHS[n]), Table(u * LENGTHS[m])
                self.assertIs(mine.refines(other=theirs), n == m and u in ("-", t), (t, u, n, m))


class EqualTest(unittest.TestCase):
    def test_equal_and_other_texts(self):
        texts = [*all_texts(1), *all_texts(2)[::4], *EIGHTS, *SIXTEENS, "0" * 4, "1" * 4]
        for t, u in product(texts, repeat=2):
            self.assertIs(Table(t) == Table(u), t == u, (t, u))
            self.assertIs(Table(t) != Table(u), t != u, (t, u))

    def test_a_table_equals_itself_and_the_same_told(self):
        table = Table("01-1")
        self.assertIs(table == table, True)
        self.assertIs(table == Table.told(2, ons=["01", "11"], frees=["10"]), True)

    def test_things_that_are_no_tables(self):
        table = Table("01")
        for thing in [*no_strings(), "01", "", ("01",), ["01"]]:
            if not isinstance(thing, Table):
                self.assertIs(table == thing, False, thing)
                self.assertIs(thing == table, False, thing)
                self.assertIs(table != thing, True, thing)


class WrongTextTest(unittest.TestCase):
    def refused(self, why, text):
        with self.assertRaises(InvalidTable) as caught:
            Table(text)
        self.assertEqual(caught.exception.why, why, text)

    def test_kind(self):
        for thing in no_strings():
            self.refused("kind", thing)
        self.refused("kind", list("01"))
        self.refused("kind", tuple("0110"))
        self.refused("kind", b"01")
        self.refused("kind", ["x", "y"])

    def test_length(self):
        for length in (0, 1, 3, 5, 6, 7, 9, 10, 12, 15, 17, 32, 64, 1000):
            self.refused("length", "0" * length)
            self.refused("length", "-" * length)

    def test_length_comes_before_sign(self):
        for length in (1, 3, 5, 6, 7, 9, 15, 17, 32):
            self.refused("length", "x" * length)
        self.refused("length", "01\n")

    def test_sign(self):
        for length in LENGTHS.values():
            for good in "01-":
                for at in range(length):
                    for sign in ("x", "2", " ", "\n", "*", "\u0661", "\uff11", "\u2212", "\x00"):
                        self.refused("sign", good * at + sign + good * (length - at - 1))


class WrongPointTest(unittest.TestCase):
    def test_value(self):
        for text in ("01", "01-1", EIGHTS[0], SIXTEENS[0]):
            table = Table(text)
            other_sizes = [point for n in LENGTHS for point in point_strings(n) if n != table.n]
            no_points = [cube for n in LENGTHS for cube in cube_strings(n) if "-" in cube]
            strings = [*other_sizes, *no_points, *STRANGE_STRINGS, *LONG_STRINGS, "1_1", "0b1", "-1", "+1", "\u0660"]
            for thing in [*strings, *no_strings()]:
                with self.assertRaises(InvalidPoint) as caught:
                    table.value(thing)
                self.assertEqual(caught.exception.at, 0, thing)


class ToldTest(unittest.TestCase):
    def test_each_table_from_its_points(self):
        for text in chosen_texts():
            n = size(text)
            ons, frees = with_sign(text, "1"), with_sign(text, "-")
            for make in (list, tuple, reversed_list):
                table = Table.told(n, ons=make(ons), frees=make(frees))
                self.assertIsInstance(table, Table)
                self.assertEqual((table.text, table.n), (text, n))

    def test_frees_left_out(self):
        for n in LENGTHS:
            for text in ("0" * LENGTHS[n], "1" * LENGTHS[n], ("01" * 8)[:LENGTHS[n]]):
                self.assertEqual(Table.told(n, ons=with_sign(text, "1")).text, text)
        self.assertEqual(Table.told(2, ons=[]).text, "0000")
        self.assertEqual(Table.told(2, ons=(), frees=()).text, "0000")

    def test_repetitions(self):
        table = Table.told(2, ons=["11", "00", "11", "11"], frees=("01", "01"))
        self.assertEqual(table.text, "1-01")
        self.assertEqual(Table.told(1, ons=["1"] * 500, frees=["0"] * 500).text, "-1")

    def test_arguments_by_name(self):
        self.assertEqual(Table.told(frees=["0"], ons=["1"], n=1).text, "-1")

    def test_the_passed_lists_stay_and_are_not_kept(self):
        ons, frees = ["11", "00", "11"], ["01", "01"]
        table = Table.told(2, ons=ons, frees=frees)
        self.assertEqual((ons, frees), (["11", "00", "11"], ["01", "01"]))
        ons.append("10")
        frees.clear()
        self.assertEqual(table.text, "1-01")
        self.assertEqual(table.ons(), ["00", "11"])
        self.assertEqual(table.frees(), ["01"])

    def test_lists_of_a_call_that_fails_stay(self):
        ons, frees = ["11", "0"], ["2"]
        with self.assertRaises(InvalidPoint):
            Table.told(2, ons=ons, frees=frees)
        self.assertEqual((ons, frees), (["11", "0"], ["2"]))


class WrongToldTest(unittest.TestCase):
    def refused(self, why, *args, **named):
        with self.assertRaises(InvalidTable) as caught:
            Table.told(*args, **named)
        self.assertEqual(caught.exception.why, why, (args, named))

    def no_point(self, at, *args, **named):
        with self.assertRaises(InvalidPoint) as caught:
            Table.told(*args, **named)
        self.assertEqual(caught.exception.at, at, (args, named))

    def wrong_points(self, n):
        other_sizes = [point for m in LENGTHS for point in point_strings(m) if m != n]
        no_points = [cube for cube in cube_strings(n) if "-" in cube]
        return [*other_sizes, *no_points, *STRANGE_STRINGS, *LONG_STRINGS, *no_strings()]

    def test_inputs(self):
        for thing in no_sizes():
            self.refused("inputs", thing, ons=[])
            self.refused("inputs", thing, ons=["1"], frees=["0"])

    def test_inputs_come_before_the_points(self):
        for thing in (0, 5, True, "2", None):
            self.refused("inputs", thing, ons=["x"])
            self.refused("inputs", thing, ons=[], frees=[None])
            self.refused("inputs", thing, ons=["1"], frees=["1"])

    def test_a_wrong_point_at_each_place_of_ons(self):
        for n in LENGTHS:
            good = point_strings(n)[:2] * 2
            for at in range(len(good) + 1):
                for thing in self.wrong_points(n):
                    points = [*good[:at], thing, *good[at:]]
                    self.no_point(at, n, ons=points)
                    self.no_point(at, n, ons=tuple(points), frees=[point_strings(n)[-1]])

    def test_a_wrong_point_at_each_place_of_frees(self):
        for n in LENGTHS:
            good = point_strings(n)[:2] * 2
            for at in range(len(good) + 1):
                for thing in self.wrong_points(n):
                    points = [*good[:at], thing, *good[at:]]
                    self.no_point(at, n, ons=[], frees=points)
                    self.no_point(at, n, ons=point_strings(n)[2:], frees=tuple(points))

    def test_the_first_of_several_wrong_points(self):
        self.no_point(1, 2, ons=["11", "1", "x", "00"])
        self.no_point(2, 2, ons=[], frees=["11", "10", None, 5])

    def test_ons_come_before_frees(self):
        self.no_point(3, 2, ons=["11", "01", "11", "0"], frees=["2", "00"])
        self.no_point(1, 2, ons=["11", ["01"]], frees=[{}])

    def test_wrong_points_come_before_both(self):
        self.no_point(1, 2, ons=["11", "1-"], frees=["11"])
        self.no_point(1, 2, ons=["11"], frees=["11", "111"])

    def test_both(self):
        for n in LENGTHS:
            for point in point_strings(n):
                self.refused("both", n, ons=[point], frees=[point])
                self.refused("both", n, ons=point_strings(n), frees=(point,))
                self.refused("both", n, ons=(point,), frees=point_strings(n)[::-1])
        self.refused("both", 2, ons=["00", "01", "01"], frees=["11", "11", "01"])


class InterfaceTest(unittest.TestCase):
    def test_the_class_and_its_methods_are_defined_in_this_file(self):
        self.assertEqual(Table.__module__, tables.__name__)
        for name in ("value", "ons", "offs", "frees", "primes", "refines", "told", "__eq__"):
            self.assertIn(name, vars(Table))
        self.assertIsInstance(vars(Table)["told"], classmethod)

    def test_examples_of_the_document(self):
        self.assertEqual(Table.told(2, ons=["11"], frees=["00"]).text, "-001")
        self.assertEqual(Table("0111").primes(), ["-1", "1-"])


def reversed_list(points):
    return list(reversed(points))


if __name__ == "__main__":
    unittest.main()
