"""Covers: points [18] to [25] and the interface under steadycover/covers.py."""

import inspect
import unittest
from itertools import permutations, product

from steadycover import covers
from steadycover.covers import (
    calm, covered, flicker, is_cover, is_order, longest, longest_order, misfit, orders, played, product_words, why,
    wires,
)
from steadycover.errors import InvalidChange, InvalidCover, InvalidOrder, InvalidPoint, LimitExceeded
from steadycover.tables import Table
from tests.definitions import defined_why, defined_wires, too_long, walk
from tests.samples import (
    EIGHTS, SIXTEENS, SIZES, all_changes, all_texts, contained, cube_strings, no_changes, no_covers, no_points,
    no_strings, point_strings, shown,
)

OF_CHANGE_AND_COVER = (wires, product_words, longest, longest_order, flicker, calm, why)


def small_cases():
    """Changes and covers with at most five wires: all small ones of one and two inputs, a choice of the others."""
    cases = []
    steps = {1: (1, 1, 1), 2: (1, 1, 9), 3: (1, 7, 211), 4: (3, 67, 6007)}
    for n in SIZES:
        several = [[]]
        for k, step in zip((1, 2, 3), steps[n]):
            several += [list(some) for some in product(cube_strings(n), repeat=k)][::step]
        for at, cover in enumerate(several):
            changes = all_changes(n)
            stride = {1: 1, 2: 1, 3: 5, 4: 23}[n]
            for change in changes[at % stride::stride]:
                if len(defined_wires(change, cover)) <= 5:
                    cases.append((change, cover))
    repeated = [["1"] * 5, ["0", "0", "1", "1"], ["-", "-", "1"]]
    cases += [(change, cover) for change in all_changes(1) for cover in repeated]
    return cases


def large_cases():
    """Changes and covers of up to 40 products."""
    cases = []
    for n in SIZES:
        cubes, changes = cube_strings(n), all_changes(n)
        for k in (6, 11, 17, 25, 39, 40):
            for step in (1, 5, 7, 16):
                cover = [cubes[(at * step + k) % len(cubes)] for at in range(k)]
                cases += [(change, cover) for change in changes[(k + step) % 9::9]]
                # Without the products that hold much, flickers are more frequent.
                narrow = [cube for cube in cover if cube.count("-") <= n // 2]
                cases += [(change, narrow) for change in changes[(k + step) % 11::11]]
    return cases


SMALL = small_cases()
LARGE = large_cases()


class CoverTest(unittest.TestCase):
    def test_is_cover_for_each_length(self):
        for n in SIZES:
            for k in range(44):
                cover = (cube_strings(n) * 20)[:k]
                self.assertIs(is_cover(cover, n), k <= 40, (n, k))
                self.assertIs(is_cover(tuple(cover), n), k <= 40, (n, k))
                for m in SIZES:
                    if m != n:
                        self.assertIs(is_cover(cover, m), k == 0, (n, m, k))

    def test_is_cover_of_other_things(self):
        for n in SIZES:
            for thing, _ in no_covers(n):
                self.assertIs(is_cover(thing, n), False, (thing, n))

    def test_the_same_cube_several_times(self):
        self.assertIs(is_cover(["1-"] * 40, 2), True)
        self.assertIs(is_cover(["1-"] * 41, 2), False)
        self.assertEqual(wires(("00", "11"), ["1-", "1-"]), [(0, 0), (1, 0)])
        self.assertEqual(longest(("00", "11"), ["10", "10"]), "01010")

    def test_covered(self):
        for n in SIZES:
            cubes = cube_strings(n)
            some = [[], *[[cube] for cube in cubes], *[list(two) for two in product(cubes[::4], cubes[::5])]]
            for cover in [*some, cubes[:40], cubes[-40:]]:
                for point in point_strings(n):
                    expected = any(point in contained(cube) for cube in cover)
                    self.assertIs(covered(point, cover), expected, (point, cover))
                    self.assertIs(covered(point, tuple(cover)), expected, (point, cover))

    def test_misfit(self):
        for n, texts in ((1, all_texts(1)), (2, all_texts(2)[::2]), (3, EIGHTS), (4, SIXTEENS)):
            cubes = cube_strings(n)
            some = [[], *[[cube] for cube in cubes[::n]], *[list(two) for two in product(cubes[::5], cubes[::7])]]
            for text in texts:
                for cover in [*some, Table(text).ons(), Table(text).primes()]:
                    wrong = [
                        point for point, sign in shown(text).items()
                        if sign == ("0" if any(point in contained(cube) for cube in cover) else "1")
                    ]
                    self.assertEqual(misfit(Table(text), cover), wrong[0] if wrong else None, (text, cover))
                    self.assertEqual(misfit(Table(text), tuple(cover)), wrong[0] if wrong else None, (text, cover))

    def test_free_points_are_no_misfits(self):
        self.assertIsNone(misfit(Table("-0-1"), ["11"]))
        self.assertIsNone(misfit(Table("-0-1"), ["00", "1-"]))
        self.assertIsNone(misfit(Table("----"), []))
        self.assertIsNone(misfit(Table("----"), ["--"]))
        self.assertEqual(misfit(Table("-0-1"), ["--"]), "01")
        self.assertEqual(misfit(Table("-0-1"), []), "11")

    def test_arguments_by_name(self):
        change, cover = ("00", "11"), ["1-", "-1"]
        self.assertIs(is_cover(n=2, thing=cover), True)
        self.assertIs(covered(cover=cover, point="01"), True)
        self.assertIsNone(misfit(cover=cover, table=Table("0111")))
        self.assertEqual(wires(cover=cover, change=change), [(0, 0), (1, 1)])
        self.assertIs(is_order(thing=[(1, 1), (0, 0)], cover=cover, change=change), True)
        self.assertEqual(played(order=[(1, 1), (0, 0)], cover=cover, change=change), "01")
        self.assertEqual(product_words(cover=cover, change=change), ["01", "01"])
        self.assertEqual(longest(cover=cover, change=change), "01")
        self.assertEqual(len(longest_order(cover=cover, change=change)), 2)
        self.assertIsNone(flicker(cover=cover, change=change))
        self.assertIs(calm(cover=cover, change=change), True)
        self.assertIsNone(why(cover=cover, change=change))
        self.assertEqual(len(list(orders(cover=cover, change=change))), 2)


class OrdersTest(unittest.TestCase):
    """Small covers, with all their orders."""

    def test_wires(self):
        for change, cover in [*SMALL, *LARGE]:
            found = wires(change, cover)
            self.assertEqual(found, defined_wires(change, cover), (change, cover))
            self.assertEqual(found, sorted(set(found)))
            self.assertTrue(all(type(wire) is tuple and type(wire[0]) is type(wire[1]) is int for wire in found))

    def test_orders_ascending_and_each_once(self):
        for change, cover in SMALL[::3]:
            found = list(orders(change, cover))
            expected = [list(order) for order in permutations(defined_wires(change, cover))]
            self.assertEqual(found, expected, (change, cover))
            self.assertEqual(sorted(found), found)

    def test_no_wires_have_one_order(self):
        for cover in ([], ["-"], ["-", "-"]):
            self.assertEqual(list(orders(("0", "1"), cover)), [[]])
            self.assertEqual(wires(("0", "1"), cover), [])
            self.assertIs(is_order(("0", "1"), cover, []), True)
            self.assertIs(is_order(("0", "1"), cover, ()), True)
            self.assertEqual(played(("0", "1"), cover, []), "1" if cover else "0")

    def test_six_and_seven_wires(self):
        change, six = ("000", "111"), ["111", "0-0", "--1"]
        found = list(orders(change, six))
        self.assertEqual(len(found), 720)
        self.assertEqual(found, [list(order) for order in permutations(defined_wires(change, six))])
        self.assertEqual(list(orders(("0", "1"), ["1"] * 6))[-1], [(j, 0) for j in range(5, -1, -1)])
        for seven in (["111", "0-0", "-11"], ["1--"] * 7, ["-1-", *six]):
            begun = orders(change, seven)
            with self.assertRaises(LimitExceeded) as caught:
                next(begun)
            self.assertEqual(caught.exception.limit, 6)
        self.assertEqual(len(list(orders(("000", "110"), ["111", "0-0", "-11", "00-"]))), 720)

    def test_orders_is_a_generator_of_lists_of_the_callers_own(self):
        self.assertTrue(inspect.isgeneratorfunction(orders))
        cover = ["11", "0-"]
        begun = orders(("00", "11"), cover)
        first = next(begun)
        self.assertIs(type(first), list)
        first.clear()
        cover.append("--")
        rest = list(begun)
        self.assertEqual(len(rest), 5)
        self.assertTrue(all(sorted(order) == [(0, 0), (0, 1), (1, 0)] for order in rest))
        self.assertEqual(len(list(orders(("00", "11"), ("11", "0-")))), 6)

    def test_played_against_a_walk(self):
        for change, cover in SMALL:
            for order in list(permutations(defined_wires(change, cover)))[::3]:
                expected = walk(change, cover, order)[0]
                self.assertEqual(played(change, cover, list(order)), expected, (change, cover, order))
                self.assertEqual(played(change, tuple(cover), order), expected, (change, cover, order))

    def test_all_answers_against_all_orders(self):
        for change, cover in SMALL:
            walks = [walk(change, cover, order) for order in permutations(defined_wires(change, cover))]
            words = {word for word, _ in walks}
            longest_word = longest(change, cover)
            self.assertIn(longest_word, words, (change, cover))
            for word in words:
                self.assertLessEqual(len(word), len(longest_word), (change, cover))
                self.assertEqual(word[0] + word[-1], longest_word[0] + longest_word[-1], (change, cover))
            flickers = any(too_long(word) for word in words)
            self.assertIs(calm(change, cover), not flickers, (change, cover))
            self.assertEqual(why(change, cover), defined_why(change, cover), (change, cover))
            self.assertEqual(why(change, cover) is None, not flickers, (change, cover))
            told = product_words(change, cover)
            self.assertEqual(len(told), len(cover))
            for j, word in enumerate(told):
                own = {words_of_products[j] for _, words_of_products in walks}
                self.assertEqual(word, max(own, key=len), (change, cover, j))
                self.assertTrue(len(own) == 1 or own == {"0", "010"}, (change, cover, j))

    def test_the_told_orders(self):
        for change, cover in SMALL:
            order = longest_order(change, cover)
            self.assertIs(type(order), list)
            self.assertEqual(sorted(order), defined_wires(change, cover))
            self.assertEqual(walk(change, cover, order)[0], longest(change, cover), (change, cover))
            shaken = flicker(change, cover)
            self.assertEqual(shaken is None, calm(change, cover), (change, cover))
            if shaken is not None:
                self.assertIs(type(shaken), list)
                self.assertEqual(sorted(shaken), defined_wires(change, cover))
                self.assertTrue(too_long(walk(change, cover, shaken)[0]), (change, cover))

    def test_each_kind_of_answer_occurs(self):
        words = {word for change, cover in SMALL for word in [longest(change, cover), *product_words(change, cover)]}
        self.assertLessEqual({"0", "1", "01", "10", "010", "101", "0101", "1010"}, words)
        reasons = {(why(change, cover) or ("calm",))[0] for change, cover in SMALL}
        self.assertEqual(reasons, {"calm", "meets", "alone"})


class LargeTest(unittest.TestCase):
    """Covers of up to 40 products, whose answers are held against each other."""

    def test_longest_and_its_order(self):
        for change, cover in LARGE:
            order, word = longest_order(change, cover), longest(change, cover)
            self.assertEqual(sorted(order), defined_wires(change, cover))
            self.assertEqual(walk(change, cover, order)[0], word, (change, cover))
            self.assertEqual(played(change, cover, order), word, (change, cover))

    def test_no_other_order_has_a_longer_word(self):
        for change, cover in LARGE[::2]:
            due, word = defined_wires(change, cover), longest(change, cover)
            mixed = [due[::2] + due[1::2], due[1::3] + due[::3] + due[2::3], sorted(due, key=turn_over)]
            for order in (due, due[::-1], *mixed):
                other = walk(change, cover, order)[0]
                self.assertEqual(played(change, cover, order), other, (change, cover))
                self.assertLessEqual(len(other), len(word), (change, cover))
                self.assertEqual(other[0] + other[-1], word[0] + word[-1], (change, cover))

    def test_longest_is_combined_from_the_words_of_the_products(self):
        for change, cover in LARGE:
            words = product_words(change, cover)
            self.assertEqual(longest(change, cover), combined(words), (change, cover))
            for cube, word in zip(cover, words):
                self.assertEqual(product_words(change, [cube]), [word])
                self.assertEqual(longest(change, [cube]), word)

    def test_flicker_calm_and_why(self):
        flickering = 0
        for change, cover in LARGE:
            reason = why(change, cover)
            self.assertEqual(reason, defined_why(change, cover), (change, cover))
            self.assertIs(calm(change, cover), reason is None, (change, cover))
            self.assertEqual(too_long(longest(change, cover)), reason is not None, (change, cover))
            order = flicker(change, cover)
            self.assertEqual(order is None, reason is None, (change, cover))
            if order is not None:
                flickering += 1
                self.assertIs(is_order(change, cover, order), True)
                self.assertTrue(too_long(walk(change, cover, order)[0]), (change, cover))
        self.assertTrue(100 < flickering < len(LARGE) - 100)

    def test_forty_pulses(self):
        change, cover = ("0011", "1100"), ["1111"] * 40
        self.assertEqual(longest(change, cover), "0" + "10" * 40)
        self.assertEqual(played(change, cover, longest_order(change, cover)), "0" + "10" * 40)
        self.assertEqual(len(wires(change, cover)), 160)
        self.assertEqual(why(change, cover), ("meets", 0))
        change, cover = ("0011", "1100"), ["--11", *["1111"] * 38, "11--"]
        self.assertEqual(longest(change, cover), "1" + "01" * 39)
        self.assertEqual(played(change, cover, longest_order(change, cover)), "1" + "01" * 39)
        self.assertEqual(why(change, cover), ("alone",))


def turn_over(wire):
    return (wire[1], -wire[0])


def combined(words):
    """The OR of words, combined from left to right as [71] says."""
    whole = "0"
    for word in words:
        if "1" in (whole, word):
            whole = "1"
            continue
        zeros = whole.count("0") + word.count("0") - 1
        first = "1" if "1" in (whole[0], word[0]) else ""
        last = "1" if "1" in (whole[-1], word[-1]) else ""
        whole = first + "1".join("0" * zeros) + last
    return whole


class WhyTest(unittest.TestCase):
    def test_both_ends_uncovered(self):
        change = ("00", "11")
        self.assertIsNone(why(change, []))
        self.assertEqual(why(change, ["01"]), ("meets", 0))
        self.assertEqual(why(change, ["10", "01"]), ("meets", 0))
        self.assertEqual(why(("000", "110"), ["--1", "011", "100", "010"]), ("meets", 2))
        self.assertIsNone(why(("000", "110"), ["--1", "011"]))

    def test_a_rise(self):
        change = ("00", "11")
        self.assertIsNone(why(change, ["1-", "-1", "11"]))
        self.assertEqual(why(change, ["1-", "11", "10"]), ("meets", 2))
        self.assertEqual(why(change, ["1-", "01", "10"]), ("meets", 1))

    def test_a_fall(self):
        change = ("11", "00")
        self.assertIsNone(why(change, ["1-", "-1", "11"]))
        self.assertEqual(why(change, ["1-", "11", "10"]), ("meets", 2))
        self.assertEqual(why(change, ["11", "01"]), ("meets", 1))

    def test_both_ends_covered(self):
        change = ("00", "11")
        self.assertIsNone(why(change, ["--"]))
        self.assertIsNone(why(change, ["01", "0-", "--", "10"]))
        self.assertEqual(why(change, ["0-", "1-"]), ("alone",))
        self.assertEqual(why(change, ["0-", "1-", "-0", "-1", "01"]), ("alone",))


class PlayedTest(unittest.TestCase):
    """Orders that are spoiled at each place in each way that [24] names."""

    CASES = (
        (("00", "11"), ["11", "0-", "--", "-0"]),
        (("0110", "1100"), ["1-1-", "--00", "0110", "-1-1", "----"]),
        (("111", "000"), ("0--", "0--", "111")),
    )

    def refused(self, at, change, cover, thing):
        with self.assertRaises(InvalidOrder) as caught:
            played(change, cover, thing)
        self.assertEqual(caught.exception.at, at, (change, cover, thing))
        self.assertIs(is_order(change, cover, thing), False, (change, cover, thing))

    def no_wires(self, change, cover):
        due = defined_wires(change, cover)
        pairs = [(j, i) for j in range(-2, len(cover) + 2) for i in range(-4, 6)]
        near = [list(due[0]), (*due[0], 0), due[0][:1], (due[0],), [due[0]], str(due[0]), {due[0]: 1}]
        alike = [(0, 0.0), (0.0, 0), (False, False), (True, 1), (1, True), (1.0, 1), (0, False), ("0", "0"), (0, None)]
        return [*[pair for pair in pairs if pair not in due], *near, *alike, *no_strings()]

    def test_good_orders(self):
        for change, cover in self.CASES:
            due = defined_wires(change, cover)
            for order in (due, due[::-1], due[1:] + due[:1]):
                for thing in (list(order), tuple(order)):
                    self.assertIs(is_order(change, cover, thing), True)
                    self.assertEqual(played(change, cover, thing), walk(change, cover, order)[0])

    def test_no_list(self):
        for change, cover in self.CASES:
            due = defined_wires(change, cover)
            others = [dict.fromkeys(due), set(due), frozenset(due), iter(due), (wire for wire in due), str(due)]
            for thing in [*others, *no_strings()]:
                if not isinstance(thing, (list, tuple)):
                    self.refused(-1, change, cover, thing)

    def test_something_that_is_no_wire_at_each_place(self):
        for change, cover in self.CASES:
            due = defined_wires(change, cover)
            for thing in self.no_wires(change, cover):
                for at in range(len(due) + 1):
                    self.refused(at, change, cover, [*due[:at], thing, *due[at:]])
                    self.refused(at, change, cover, (*due[:at], thing, None))
                    if at < len(due):
                        self.refused(at, change, cover, [*due[:at], thing, *due[at + 1:]])

    def test_a_wire_that_occurred_before(self):
        for change, cover in self.CASES:
            due = defined_wires(change, cover)
            for at in range(1, len(due) + 1):
                for before in range(at):
                    self.refused(at, change, cover, [*due[:at], due[before], *due[at:]])
                    self.refused(at, change, cover, tuple([*due[:at], due[before], *due[at + 1:]]))
                    self.refused(at, change, cover, [*due[:at], due[before], None])

    def test_a_missing_wire(self):
        for change, cover in self.CASES:
            due = defined_wires(change, cover)
            for at in range(len(due)):
                self.refused(len(due) - 1, change, cover, due[:at] + due[at + 1:])
                self.refused(at, change, cover, due[:at])
                self.refused(at, change, cover, tuple(due[::-1][:at]))

    def test_the_first_of_several(self):
        change, cover = ("11", "00"), ["11"]
        self.refused(1, change, cover, [(0, 1), (0, 1)])
        self.refused(0, change, cover, [(1, 1), (0, 1), (0, 1)])
        self.refused(1, change, cover, [(0, 1), "x", (0, 1)])
        self.refused(2, change, cover, [(0, 1), (0, 0), (0, 0), None])

    def test_a_spoiled_order_of_no_wires(self):
        for cover in ([], ["-"]):
            self.refused(0, ("0", "1"), cover, [(0, 0)])
            self.refused(0, ("0", "1"), cover, [None])
            self.refused(-1, ("0", "1"), cover, None)


class WrongArgumentsTest(unittest.TestCase):
    def refused(self, kind, at, call, *things, **named):
        with self.assertRaises(kind) as caught:
            call(*things, **named)
        self.assertEqual(caught.exception.at, at, (call, things, named))

    def calls(self):
        """Each function of a change and a cover, called with more arguments where it takes more."""
        with_nothing_more = [lambda change, cover, call=call: call(change, cover) for call in OF_CHANGE_AND_COVER]
        return [
            *with_nothing_more,
            lambda change, cover: is_order(change, cover, []), lambda change, cover: is_order(change, cover, None),
            lambda change, cover: played(change, cover, []), lambda change, cover: played(change, cover, "x"),
            lambda change, cover: next(orders(change, cover)), lambda change, cover: list(orders(change, cover)),
        ]

    def test_points(self):
        good = [point for n in SIZES for point in point_strings(n)]
        for n in SIZES:
            for thing in no_points(n):
                if thing not in good:
                    self.refused(InvalidPoint, 0, covered, thing, ["1" * n])
        for thing in ("", "00000", None, ("0",), True):
            self.refused(InvalidPoint, 0, covered, thing, None)
            self.refused(InvalidPoint, 0, covered, thing, [None])
            self.refused(InvalidPoint, 0, covered, point=thing, cover=[thing])

    def test_changes(self):
        good = [change for n in SIZES for change in all_changes(n)]
        things = [thing for n in SIZES for thing in no_changes(n)[::2] if thing not in good]
        for call in self.calls():
            for at, thing in enumerate(things):
                self.refused(InvalidChange, -1, call, thing, [[], None, ["x"], ["0"]][at % 4])

    def test_covers(self):
        for n in SIZES:
            change, point, table = ("0" * n, "1" * n), "0" * n, Table("10" * 2 ** (n - 1))
            for thing, at in no_covers(n):
                self.refused(InvalidCover, at, covered, point, thing)
                self.refused(InvalidCover, at, misfit, table, thing)
                for call in self.calls()[at % 3::3]:
                    self.refused(InvalidCover, at, call, change, thing)

    def test_each_function_refuses_covers(self):
        for call in self.calls():
            self.refused(InvalidCover, -1, call, ("00", "01"), None)
            self.refused(InvalidCover, -1, call, ("00", "01"), "11")
            self.refused(InvalidCover, -1, call, ("00", "01"), {"11": 0})
            self.refused(InvalidCover, -1, call, ("00", "01"), ["11"] * 41)
            self.refused(InvalidCover, -1, call, ("00", "01"), ["x"] * 41)
            self.refused(InvalidCover, 0, call, ("00", "01"), [["11"]])
            self.refused(InvalidCover, 2, call, ("00", "01"), ["11", "--", "1", "x"])
            self.refused(InvalidCover, 1, call, ("00", "01"), ("11", "---", None))
            self.refused(InvalidCover, 39, call, ("00", "01"), ["11"] * 39 + [None])

    def test_a_cover_comes_before_an_order(self):
        for order in (None, [(0, 0), (0, 0)], [None]):
            self.refused(InvalidCover, 0, played, ("00", "01"), ["1"], order)
            self.refused(InvalidChange, -1, played, ("00", "00"), ["1"], order)
            self.refused(InvalidCover, 0, is_order, ("00", "01"), ["1"], order)
            self.refused(InvalidChange, -1, is_order, ("00", "00"), ["1"], order)

    def test_orders_raises_when_the_iteration_begins(self):
        self.assertTrue(inspect.isgenerator(orders(None, None)))
        self.assertTrue(inspect.isgenerator(orders(("0", "1"), None)))
        self.assertTrue(inspect.isgenerator(orders(("0", "1"), ["1"] * 7)))
        self.refused(InvalidCover, 7, lambda: next(orders(("0", "1"), ["1"] * 7 + ["2"])))
        self.refused(InvalidChange, -1, lambda: next(orders(("0", "0"), ["1"] * 7)))

    def test_arguments_stay_as_they_are(self):
        change, cover, order = ("00", "11"), ["11", "0-"], [(1, 0), (0, 1), (0, 0)]
        for call in OF_CHANGE_AND_COVER:
            call(change, cover)
        played(change, cover, order)
        is_order(change, cover, order)
        list(orders(change, cover))
        covered("00", cover)
        misfit(Table("0110"), cover)
        self.assertEqual((change, cover, order), (("00", "11"), ["11", "0-"], [(1, 0), (0, 1), (0, 0)]))

    def test_lists_that_the_caller_changes(self):
        change, cover = ("00", "11"), ["10", "-0", "01"]
        for call in (wires, product_words, longest_order, flicker):
            first = call(change, cover)
            self.assertIs(type(first), list)
            whole = list(first)
            first.reverse()
            first.append("x")
            self.assertEqual(call(change, cover), whole)
            self.assertEqual(call(change, tuple(cover)), whole)


class InterfaceTest(unittest.TestCase):
    def test_each_function_is_defined_in_this_file(self):
        for call in (is_cover, covered, misfit, is_order, played, orders, *OF_CHANGE_AND_COVER):
            self.assertEqual(call.__module__, covers.__name__)

    def test_examples_of_the_document(self):
        change, cover = ("011", "111"), ["0-1", "11-"]
        self.assertEqual(
            [why(change, cover), longest(change, cover), played(change, cover, [(1, 0), (0, 0)])],
            [("alone",), "101", "1"],
        )
        self.assertEqual(flicker(change, cover), [(0, 0), (1, 0)])
        self.assertIs(calm(change, ["0-1", "11-", "-11"]), True)
        change, cover = ("11", "00"), ["11", "01"]
        self.assertEqual(
            [why(change, cover), product_words(change, cover), longest(change, cover)],
            [("meets", 1), ["10", "010"], "1010"],
        )
        with self.assertRaises(InvalidOrder) as caught:
            played(("11", "00"), ["11"], [(0, 1), (0, 1)])
        self.assertEqual(caught.exception.at, 1)


if __name__ == "__main__":
    unittest.main()
