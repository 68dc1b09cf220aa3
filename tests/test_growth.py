"""Demands and growth: points [40] to [49] and the interface under steadycover/growth.py."""

import unittest
from itertools import combinations, product

from steadycover import growth
from steadycover.covers import calm, misfit
from steadycover.errors import InvalidChange, InvalidCube
from steadycover.growth import Demand, barred, broken, good_primes, grown, is_bar, is_good, is_growth, needed
from steadycover.tables import Table
from tests.definitions import (
    BRANCHING, EXAMPLE, ROWS, SMALL, cubes_of, defined_barred, defined_broken, defined_grown, defined_needed,
    defined_primes, demand_of, growths, is_defined_good, offs_in, unplain_of,
)
from tests.samples import (
    EIGHTS, SIXTEENS, SIZES, all_changes, all_texts, contained, cube_strings, deep_tuple, kind_of, no_changes, no_cubes,
    no_points, no_strings, plain_of, point_strings, size,
)


class DemandTest(unittest.TestCase):
    def test_zero_to_eight_changes(self):
        for text in ("01", "0111", "01010100", "0111111111111110"):
            table, plain = Table(text), plain_of(text)
            for k in range(9):
                changes = (plain * 8)[:k]
                for given in (list(changes), tuple(changes)):
                    demand = Demand(table, given)
                    self.assertEqual(demand.table, table)
                    self.assertIs(type(demand.changes), tuple)
                    self.assertEqual(demand.changes, tuple(changes))
                    self.assertEqual(len(demand), k)
                    self.assertEqual([demand[at] for at in range(k)], changes)
        self.assertEqual(Demand(Table("01")).changes, ())
        self.assertEqual(Demand(changes=[("0", "1")], table=Table("01")).changes, (("0", "1"),))

    def test_nine_and_more_changes(self):
        table, plain = Table("0111"), plain_of("0111")
        for k in (9, 10, 11, 100):
            for changes in ((plain * 20)[:k], [None] * k, [*plain[:1], "x", *[None] * (k - 2)]):
                self.refused(-1, table, changes)
                self.refused(-1, table, tuple(changes))

    def refused(self, at, *things, **named):
        with self.assertRaises(InvalidChange) as caught:
            Demand(*things, **named)
        self.assertEqual(caught.exception.at, at, (things, named))

    def test_changes_that_are_no_list(self):
        table, plain = Table("0111"), plain_of("0111")
        others = [dict.fromkeys(plain), set(plain), frozenset(plain), iter(plain), (change for change in plain), ""]
        for thing in [*others, *no_strings(), Demand(table, plain[:2])]:
            if not isinstance(thing, (list, tuple)):
                self.refused(-1, table, thing)
                self.refused(-1, table=table, changes=thing)

    def test_each_wrong_item_at_each_place(self):
        for text in ("01", "0110", "-101", "01010100", "0-1-01-1"):
            table, plain = Table(text), (plain_of(text) * 8)[:5]
            wrong = [*no_changes(table.n), *unplain_of(text)]
            for number, thing in enumerate(wrong):
                for at in range(number % 3, len(plain) + 1, 3):
                    self.refused(at, table, [*plain[:at], thing, *plain[at:]])
                    self.refused(at, table, (*plain[:at], thing, *plain[at + 1:]))
        self.refused(7, Table("01"), [("0", "1")] * 7 + [("0", "0")])

    def test_the_least_of_several_wrong_items(self):
        table = Table("0110")
        self.refused(0, table, [("00", "11"), None])
        self.refused(1, table, [("00", "01"), ("00", "11"), "x", ("0", "1")])
        self.refused(2, table, (("00", "01"), ("00", "01"), ["00", "01"], None))
        self.refused(0, table, ["00", "01"])
        self.refused(0, table, ("00", "01"))

    def test_all_plain_and_no_other_changes(self):
        for text in [*all_texts(1), *all_texts(2), *EIGHTS[::3], SIXTEENS[5]]:
            plain = plain_of(text)
            for change in all_changes(size(text)):
                if change in plain:
                    self.assertEqual(Demand(Table(text), [change])[0], change)
                else:
                    self.refused(0, Table(text), [change])

    def test_the_same_change_twice(self):
        demand = Demand(Table("01"), [("0", "1"), ("1", "0"), ("0", "1")])
        self.assertEqual(demand.changes, (("0", "1"), ("1", "0"), ("0", "1")))
        self.assertEqual((demand[0], demand[2], len(demand)), (("0", "1"), ("0", "1"), 3))
        self.assertEqual(broken(demand, "0"), [0, 1, 2])

    def test_the_passed_list_stays_and_is_not_kept(self):
        changes = [("0", "1"), ("1", "0")]
        demand = Demand(Table("01"), changes)
        self.assertEqual(changes, [("0", "1"), ("1", "0")])
        changes.append(None)
        changes[0] = ("1", "0")
        self.assertEqual(demand.changes, (("0", "1"), ("1", "0")))
        self.assertEqual((len(demand), demand[0]), (2, ("0", "1")))

    def test_in(self):
        for text in ("0111", "01010100"):
            plain = plain_of(text)
            for k in range(5):
                demand = Demand(Table(text), plain[:k])
                for change in all_changes(size(text)):
                    self.assertIs(change in demand, change in plain[:k], (text, change, k))
                    self.assertIs(change not in demand, change not in plain[:k], (text, change, k))
                for thing in no_changes(size(text)):
                    self.assertIs(thing in demand, False, thing)
                    self.assertIs(list(plain[0]) in demand, False)


class EqualTest(unittest.TestCase):
    def test_other_demands(self):
        text, falls = EXAMPLE
        rows = [*SMALL[:300:11], EXAMPLE, (text, falls[::-1]), (text, falls * 2), ("01010101", ())]
        for one, other in product(rows, repeat=2):
            self.assertIs(demand_of(one) == demand_of(other), one == other, (one, other))
            self.assertIs(demand_of(one) != demand_of(other), one != other, (one, other))

    def test_equal_however_it_was_made(self):
        table, changes = Table("01010100"), list(EXAMPLE[1])
        demand = Demand(table, changes)
        self.assertIs(demand == demand, True)
        self.assertIs(demand == Demand(Table("01010100"), tuple(changes)), True)
        self.assertIs(demand == Demand(table) + changes[0] + changes[1], True)
        self.assertIs(demand == Demand(table, changes[::-1]), False)
        self.assertIs(demand == Demand(table, changes[:1]), False)
        self.assertIs(Demand(Table("01")) == Demand(Table("0-")), False)
        self.assertIs(Demand(Table("00")) == Demand(Table("0000")), False)

    def test_things_that_are_no_demands(self):
        for demand in (Demand(Table("01")), Demand(Table("01"), [("0", "1")]), Demand(Table("0111"), [("00", "11")])):
            changes = demand.changes
            others = [demand.table, changes, list(changes), (demand.table, changes), [demand.table, changes], [demand]]
            for thing in [*no_strings(), *others, "01", None]:
                if not isinstance(thing, Demand):
                    self.assertIs(demand == thing, False, thing)
                    self.assertIs(thing == demand, False, thing)
                    self.assertIs(demand != thing, True, thing)


class PlusAndOnlyTest(unittest.TestCase):
    def refused(self, at, demand, thing):
        before = demand.changes
        with self.assertRaises(InvalidChange) as caught:
            demand + thing
        self.assertEqual(caught.exception.at, at, (before, thing))
        self.assertEqual(demand.changes, before)

    def test_plus(self):
        for text in ("01", "0111", "01010100", "0111111111111110"):
            plain = (plain_of(text) * 8)[:8]
            demand = Demand(Table(text))
            for k, change in enumerate(plain):
                longer = demand + change
                self.assertIs(type(longer), Demand)
                self.assertEqual(longer.table, Table(text))
                self.assertEqual(longer.changes, tuple(plain[:k + 1]))
                self.assertEqual(demand.changes, tuple(plain[:k]))
                self.assertEqual(longer, Demand(Table(text), plain[:k + 1]))
                demand = longer
            for thing in [*plain, *no_strings(), *unplain_of(text)]:
                self.refused(-1, demand, thing)

    def test_plus_something_wrong(self):
        for text in ("01", "0110", "01010100", "0-1-01-1"):
            wrong = [*no_changes(size(text)), *unplain_of(text), [plain_of(text)[0]], list(plain_of(text)[0])]
            for k in range(8):
                demand = Demand(Table(text), (plain_of(text) * 8)[:k])
                for thing in wrong[k % 4::4]:
                    self.refused(k, demand, thing)

    def test_only(self):
        text = "01010100"
        plain = plain_of(text)[:7] + plain_of(text)[:1]
        for k in (0, 1, 3, 8):
            demand = Demand(Table(text), plain[:k])
            for count in range(k + 1):
                for numbers in combinations(range(k), count):
                    for given in (list(numbers), tuple(numbers)):
                        part = demand.only(given)
                        self.assertIs(type(part), Demand)
                        self.assertEqual(part.table, demand.table)
                        self.assertEqual(part.changes, tuple(plain[at] for at in numbers))
                        self.assertEqual(given, type(given)(numbers))
            self.assertEqual(demand, Demand(Table(text), plain[:k]))
            self.assertEqual(demand.only(numbers=list(range(k))), demand)

    def test_only_does_not_keep_the_list(self):
        numbers = [0]
        part = demand_of(EXAMPLE).only(numbers)
        numbers.append(1)
        self.assertEqual(part.changes, EXAMPLE[1][:1])


class GoodTest(unittest.TestCase):
    def test_broken(self):
        seen = set()
        for row in ROWS:
            demand = demand_of(row)
            for cube in cubes_of(row):
                found = broken(demand, cube)
                self.assertIs(type(found), list)
                self.assertEqual(found, defined_broken(row, cube), (row, cube))
                seen.update(kind_of(row[0], row[1][at]) for at in found)
        self.assertEqual(seen, {"rise", "fall"})

    def test_low_and_high_changes_are_never_broken(self):
        for text in ("0000", "1111", "00001111"):
            level = [change for change in plain_of(text) if kind_of(text, change) in ("low", "high")][:8]
            for cube in cube_strings(size(text)):
                self.assertEqual(broken(Demand(Table(text), level), cube), [])

    def test_is_good(self):
        for row in ROWS:
            demand = demand_of(row)
            for cube in cubes_of(row):
                self.assertIs(is_good(demand, cube), is_defined_good(row, cube), (row, cube))

    def test_good_primes(self):
        for row in ROWS:
            self.assertEqual(good_primes(demand_of(row)), defined_primes(row), row)
        for text in (*EIGHTS, *SIXTEENS):
            self.assertEqual(good_primes(Demand(Table(text))), Table(text).primes(), text)

    def test_examples_by_hand(self):
        demand = demand_of(EXAMPLE)
        self.assertEqual(broken(demand, "-01"), [0])
        self.assertEqual(broken(demand, "0-1"), [1])
        self.assertEqual(broken(demand, "001"), [0, 1])
        self.assertEqual(broken(demand, "--1"), [])
        self.assertIs(is_good(demand, "--1"), False)
        self.assertIs(is_good(demand, "111"), False)
        self.assertEqual(good_primes(demand), ["011", "101"])
        self.assertEqual(good_primes(Demand(Table("11011001"))), ["-00", "-11", "0-1", "00-"])


class GrowthTest(unittest.TestCase):
    def test_grown(self):
        steps_of = {}
        for row in ROWS:
            demand = demand_of(row)
            for cube in cubes_of(row):
                found = grown(demand, cube)
                self.assertEqual(found, defined_grown(row, cube), (row, cube))
                last, steps = found
                self.assertIs(type(found), tuple)
                self.assertIs(type(steps), list)
                self.assertEqual(broken(demand, last), [], (row, cube))
                self.assertIs(is_growth(demand, cube, found), True, (row, cube))
                steps_of[len(steps)] = True
        self.assertEqual(sorted(steps_of)[:4], [0, 1, 2, 3])

    def test_off_points_do_not_stop_it(self):
        demand = demand_of(EXAMPLE)
        self.assertEqual(grown(demand, "-01"), ("--1", [(0, "--1")]))
        self.assertEqual(grown(demand, "000"), ("---", [(0, "0--"), (1, "---")]))
        self.assertEqual(grown(demand, "111"), ("111", []))

    def test_the_facts(self):
        for row in ROWS:
            _, changes = row
            for cube in cubes_of(row)[::3]:
                last, _ = grown(demand_of(row), cube)
                for other, steps in growths(row, cube) if len(changes) < 6 else []:
                    self.assertEqual(other, last, (row, cube))
                    self.assertLessEqual(len(steps), len(changes))
                    self.assertEqual(len({at for at, _ in steps}), len(steps))
                for holder in cube_strings(size(row[0])):
                    if contained(cube) <= contained(holder) and not defined_broken(row, holder):
                        self.assertLessEqual(contained(last), contained(holder), (row, cube, holder))

    def test_growths_that_take_any_broken_change(self):
        several = 0
        for row in [*SMALL[::2], EXAMPLE, BRANCHING]:
            demand = demand_of(row)
            for cube in cubes_of(row)[::2]:
                found = growths(row, cube) if len(row[1]) < 7 else []
                several += len({tuple(steps) for _, steps in found}) > 1
                for last, steps in found:
                    self.assertIs(is_growth(demand, cube, (last, steps)), True, (row, cube, steps))
                    self.assertIs(is_growth(demand, cube, (last, tuple(steps))), True, (row, cube, steps))
                    self.assertIs(is_growth(thing=(last, steps), cube=cube, demand=demand), True)
        self.assertGreater(several, 50)

    def spoiled_steps(self, row, cube, steps):
        """The steps, spoiled at each place."""
        spoiled = []
        for at, (number, then) in enumerate(steps):
            before = steps[at - 1][1] if at else cube
            unbroken = [other for other in range(len(row[1])) if other not in defined_broken(row, before)]
            others = [-1, len(row[1]), number - 100, str(number), float(number), number + 0j, None, [number], (number,)]
            others += [False] if number == 0 else [True] if number == 1 else []
            wrong = [(other, then) for other in [*unbroken, *others]]
            wrong += [(number, other) for other in cube_strings(len(cube)) if other != then]
            wrong += [(number, other) for other in (None, "", then + "-", then[1:], [then], (then,), list(then), 0)]
            wrong += [[number, then], (number,), (then,), (then, number), (number, then, 0), (), {number: then}]
            wrong += [None, number, then, ((number, then),), iter((number, then))]
            spoiled += [[*steps[:at], step, *steps[at + 1:]] for step in wrong]
            # The step twice, or another step in the way: the change is not broken any more.
            spoiled += [[*steps[:at + 1], *steps[at:]], [*steps[:at], (len(row[1]), before), *steps[at:]]]
        return spoiled

    def test_growths_spoiled_at_each_place(self):
        rows = [EXAMPLE, BRANCHING, *SMALL[5::17]]
        count = 0
        for row in rows:
            demand = demand_of(row)
            for cube in cubes_of(row)[::5]:
                last, steps = defined_grown(row, cube)
                for wrong in self.spoiled_steps(row, cube, steps):
                    count += 1
                    self.assertIs(is_growth(demand, cube, (last, wrong)), False, (row, cube, wrong))
                    self.assertIs(is_growth(demand, cube, (last, tuple(wrong))), False, (row, cube, wrong))
        self.assertGreater(count, 1000)

    def test_a_wrong_or_early_last_cube(self):
        for row in [EXAMPLE, BRANCHING, *SMALL[3::13]]:
            demand = demand_of(row)
            for cube in cubes_of(row)[::5]:
                last, steps = defined_grown(row, cube)
                for other in cube_strings(size(row[0])):
                    self.assertIs(is_growth(demand, cube, (other, steps)), other == last, (row, cube, other))
                for k in range(len(steps)):
                    early = steps[k - 1][1] if k else cube
                    self.assertIs(is_growth(demand, cube, (early, steps[:k])), False, (row, cube, k))
                    self.assertIs(is_growth(demand, cube, (last, steps[:k])), False, (row, cube, k))
                    self.assertIs(is_growth(demand, cube, (None, steps[:k])), False, (row, cube, k))

    def test_things_that_are_no_growths(self):
        demand = demand_of(EXAMPLE)
        step = (0, "--1")
        others = [
            ["--1", [step]], ("--1",), ("--1", [step], 0), ("--1", [step], "111"), ([step], "--1"), (), [],
            ("--1", {0: "--1"}), ("--1", {step}), ("--1", frozenset([step])), ("--1", iter([step])), ("--1", None),
            ("--1", step), ("--1", "--1"), ("--1", 0), ("--1", [[step]]), ("--1", [step, None]), (["--1"], [step]),
            (("--1",), [step]), (None, [step]), (b"--1", [step]), {"--1": [step]}, {"--1", (step,)}, "--1", step,
            ("--1", dict([step])), ("--1", [step, ()]), ("--1", []), ("--1", ()), (None, []), (None, None),
        ]
        for thing in [*others, *no_strings(), (deep_tuple(18), [step]), ("--1", [deep_tuple(18)])]:
            self.assertIs(is_growth(demand, "-01", thing), False, thing)
        for thing in no_strings():
            self.assertIs(is_growth(demand, "-01", ("--1", thing)), False, thing)
            self.assertIs(is_growth(demand, "-01", (thing, [step])), False, thing)
            self.assertIs(is_growth(demand, "-01", ("--1", [thing])), False, thing)
        self.assertIs(is_growth(demand, "-01", ("--1", [step])), True)
        self.assertIs(is_growth(demand, "111", ("111", [])), True)
        self.assertIs(is_growth(demand, "111", ("111", ())), True)
        self.assertIs(is_growth(demand, "111", ("111", {})), False)

    def test_the_thing_stays_as_it_is(self):
        steps = [(0, "0--"), (1, "---")]
        self.assertIs(is_growth(demand_of(EXAMPLE), "000", ("---", steps)), True)
        self.assertEqual(steps, [(0, "0--"), (1, "---")])


class NeededAndBarredTest(unittest.TestCase):
    def test_needed(self):
        for row in ROWS:
            found = needed(demand_of(row))
            self.assertIs(type(found), list)
            self.assertEqual(found, defined_needed(row), row)
        self.assertEqual(needed(demand_of(EXAMPLE)), ["-01", "0-1"])
        self.assertEqual(needed(Demand(Table("0110"))), ["01", "10"])
        self.assertEqual(needed(Demand(Table("00-0"))), [])
        self.assertEqual(needed(Demand(Table("1111"), [("00", "10")])), ["-0", "01", "11"])
        self.assertEqual(needed(Demand(Table("0111"), [("00", "11")])), ["-1", "1-"])
        self.assertEqual(needed(Demand(Table("0111"), [("11", "00"), ("01", "11")])), ["-1", "1-"])

    def test_barred(self):
        seen = {}
        for row in ROWS:
            found = barred(demand_of(row))
            self.assertEqual(found, defined_barred(row), row)
            seen[size(row[0]), found is None] = True
        self.assertEqual([n for n in SIZES if (n, True) in seen], [1, 2, 3, 4])
        self.assertEqual([n for n in SIZES if (n, False) in seen], [3, 4])

    def test_barred_against_the_cover_of_all_good_primes(self):
        for row in ROWS:
            demand = demand_of(row)
            cover = good_primes(demand)
            fits = misfit(demand.table, cover) is None and all(calm(change, cover) for change in row[1])
            self.assertEqual(barred(demand) is None, fits, row)

    def test_the_example_of_the_document(self):
        demand = demand_of(EXAMPLE)
        self.assertEqual(barred(demand), ("-01", [(0, "--1")], "111"))
        self.assertIsNone(barred(demand.only([0])))
        self.assertIsNone(barred(demand.only([1])))
        self.assertIsNone(barred(demand=Demand(Table("01010100"))))

    def barred_rows(self):
        return [row for row in ROWS if defined_barred(row) is not None]

    def test_is_bar_for_each_needed_cube_growth_and_point(self):
        rows = self.barred_rows()
        self.assertGreater(len(rows), 5)
        for row in rows:
            demand = demand_of(row)
            self.assertIs(is_bar(demand, barred(demand)), True, row)
            for cube in defined_needed(row):
                for last, steps in growths(row, cube)[:30]:
                    for point in point_strings(size(row[0])):
                        expected = point in offs_in(row[0], last)
                        self.assertIs(is_bar(demand, (cube, steps, point)), expected, (row, cube, steps, point))
                        self.assertIs(is_bar(demand, (cube, tuple(steps), point)), expected, (row, cube, steps, point))

    def test_a_bar_of_a_cube_that_is_not_needed(self):
        tried = 0
        for row in self.barred_rows():
            demand = demand_of(row)
            for cube in cube_strings(size(row[0])):
                last, steps = defined_grown(row, cube)
                if cube not in defined_needed(row) and offs_in(row[0], last):
                    tried += 1
                    self.assertIs(is_bar(demand, (cube, steps, offs_in(row[0], last)[0])), False, (row, cube))
        self.assertGreater(tried, 100)

    def test_a_bar_with_spoiled_steps(self):
        spoil = GrowthTest().spoiled_steps
        for row in [EXAMPLE, *self.barred_rows()[::4]]:
            demand = demand_of(row)
            cube, steps, point = defined_barred(row)
            self.assertIs(is_bar(demand, (cube, steps, point)), True)
            for wrong in spoil(row, cube, steps):
                self.assertIs(is_bar(demand, (cube, wrong, point)), False, (row, wrong))
            for k in range(len(steps)):
                self.assertIs(is_bar(demand, (cube, steps[:k], point)), False, (row, k))
            for other in (None, {}, iter(steps), dict(steps), set(steps), "", steps[0] if steps else 0):
                self.assertIs(is_bar(demand, (cube, other, point)), False, (row, other))

    def test_things_that_are_no_bars(self):
        demand = demand_of(EXAMPLE)
        cube, steps, point = bar = ("-01", [(0, "--1")], "111")
        self.assertIs(is_bar(demand, bar), True)
        self.assertIs(is_bar(thing=bar, demand=demand), True)
        others = [
            list(bar), bar[:2], (*bar, 0), bar[::-1], (bar,), {cube: (steps, point)}, (steps, cube, point), (), None,
            ("--1", [], point), (cube, [], point), (cube, steps, "---"), (cube, steps, "11"), (cube, steps, "1111"),
            (cube, steps, "1-1"), (cube, steps, 7), (cube, steps, ("1", "1", "1")), (cube, steps, ["111"]),
        ]
        for thing in [*others, *no_strings(), (deep_tuple(18), steps, point), (cube, steps, deep_tuple(18))]:
            self.assertIs(is_bar(demand, thing), False, thing)
        for thing in no_points(3):
            self.assertIs(is_bar(demand, (cube, steps, thing)), False, thing)
        for thing in no_cubes(3):
            self.assertIs(is_bar(demand, (thing, steps, point)), False, thing)
            self.assertIs(is_bar(demand, (cube, thing, point)), False, thing)
        self.assertEqual(bar, ("-01", [(0, "--1")], "111"))

    def test_no_bar_where_none_is(self):
        for row in [row for row in SMALL if defined_barred(row) is None][::9]:
            demand = demand_of(row)
            for cube in defined_needed(row):
                _, steps = defined_grown(row, cube)
                for point in point_strings(size(row[0])):
                    self.assertIs(is_bar(demand, (cube, steps, point)), False, (row, cube, point))
            self.assertIs(is_bar(demand, None), False)


class ListsTest(unittest.TestCase):
    def test_lists_that_the_caller_changes(self):
        demand = demand_of(EXAMPLE)
        calls = [
            lambda: broken(demand, "001"), lambda: good_primes(demand), lambda: needed(demand),
            lambda: grown(demand, "000")[1], lambda: barred(demand)[1],
        ]
        for call in calls:
            first = call()
            self.assertIs(type(first), list)
            whole = list(first)
            first.insert(0, "x")
            first.pop()
            first.append("y")
            self.assertEqual(call(), whole)
        self.assertEqual(demand, demand_of(EXAMPLE))

    def test_nothing_changes_the_demand_and_its_table(self):
        for row in [EXAMPLE, BRANCHING, *SMALL[::40]]:
            table = Table(row[0])
            demand = Demand(table, row[1])
            for cube in cubes_of(row)[::7]:
                broken(demand, cube)
                is_good(demand, cube)
                is_growth(demand, cube, grown(demand, cube))
            good_primes(demand)
            needed(demand)
            is_bar(demand, barred(demand))
            demand.only([])
            self.assertEqual(demand, demand_of(row))
            self.assertEqual(demand.changes, row[1])
            self.assertEqual(vars(table), vars(Table(row[0])))


class WrongCubesTest(unittest.TestCase):
    def refused(self, call, *things, **named):
        with self.assertRaises(InvalidCube) as caught:
            call(*things, **named)
        self.assertEqual(caught.exception.at, 1, (call, things, named))

    def test_each_function(self):
        for text in ("01", "0111", "01010100", "0111111111111110"):
            demand = Demand(Table(text), plain_of(text)[:3])
            for thing in no_cubes(demand.table.n):
                for call in (broken, is_good, grown):
                    self.refused(call, demand, thing)
                self.refused(is_growth, demand, thing, (thing, []))
        for call in (broken, is_good, grown):
            self.refused(call, cube="1", demand=demand_of(EXAMPLE))

    def test_a_wrong_cube_and_a_wrong_thing(self):
        for thing in [*no_strings(), (None, []), ("---", [])]:
            self.refused(is_growth, demand_of(EXAMPLE), "--", thing)
            self.refused(is_growth, demand_of(EXAMPLE), None, thing)


class InterfaceTest(unittest.TestCase):
    def test_all_is_defined_in_this_file(self):
        for thing in (Demand, broken, is_good, good_primes, grown, is_growth, needed, barred, is_bar):
            self.assertEqual(thing.__module__, growth.__name__)
        for name in ("__len__", "__getitem__", "__contains__", "__eq__", "__add__", "only"):
            self.assertIn(name, vars(Demand))

    def test_examples_of_the_document(self):
        falls = [("011", "000"), ("101", "000")]
        demand = Demand(Table("01010100"), falls)
        self.assertEqual(barred(demand), ("-01", [(0, "--1")], "111"))


if __name__ == "__main__":
    unittest.main()
