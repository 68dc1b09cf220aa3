"""Changes together: points [60] to [66] and the interface under steadycover/together.py."""

import unittest
from itertools import combinations
from unittest import mock

from steadycover import least, together
from steadycover.errors import InvalidChange, LimitExceeded, NothingLeft
from steadycover.growth import Demand, good_primes
from steadycover.least import grown_cover, is_cover_for, least_covers, least_size
from steadycover.tables import Table
from steadycover.together import all_sure, conflicts, greatest, implies, price, surely, welcome
from tests.definitions import (
    BRANCHING, CROWDED, EXAMPLE, ROWS, SMALL, defined_barred, defined_broken, defined_primes, defined_why, demand_of,
    is_defined_cover, is_defined_good, many_primes, unplain_of,
)
from tests.samples import contained, cube_strings, inside, kind_of, no_changes, no_strings, plain_of, shown, size

THREE = ("01010100", (("011", "000"), ("101", "000"), ("011", "001")))
# Eight changes, some of them twice, that conflict in several ways.
EIGHT = ("01010100", (
    ("011", "000"), ("101", "000"), ("011", "001"), ("001", "101"),
    ("011", "000"), ("000", "011"), ("101", "100"), ("000", "010"),
))
# Any two of these changes fit, all three conflict.
TRIPLE = ("1101101011111011", (("0001", "0010"), ("1000", "1101"), ("1011", "0010")))
BARRED = [row for row in [*ROWS, EIGHT] if defined_barred(row) is not None]
FITTING = [row for row in ROWS if defined_barred(row) is None]
# A choice of small demands, for the definitions that try all sets of cubes.
FEW = [row for row in SMALL if size(row[0]) < 3][::9]


def sets_of(row):
    return [some for k in range(len(row[1]) + 1) for some in combinations(range(len(row[1])), k)]


def part_of(row, numbers):
    return (row[0], tuple(row[1][at] for at in numbers))


def fits(row, numbers):
    """What [60] says, as all good cubes together are a cover exactly if there is one."""
    part = part_of(row, numbers)
    return is_defined_cover(part, [cube for cube in cube_strings(size(row[0])) if is_defined_good(part, cube)])


def defined_conflicts(row):
    found = [some for some in sets_of(row) if not fits(row, some)]
    return [some for some in found if not any(set(other) < set(some) for other in found)]


def defined_greatest(row):
    found = [some for some in sets_of(row) if fits(row, some)]
    outer = [some for some in found if not any(set(some) < set(other) for other in found)]
    return sorted(outer, key=lambda some: (-len(some), some))


def rows_with_conflicts():
    rows = [THREE, EIGHT, TRIPLE, EXAMPLE, BRANCHING, ("01", ()), ("0000", ()), *SMALL[::23]]
    rows += [row for row in BARRED if len(row[1]) <= 5]
    for text in ("01010100", "01110110", "11011001", "1011-101"):
        moved = [change for change in plain_of(text) if kind_of(text, change) in ("rise", "fall")]
        rows += [(text, tuple(moved[at::5][:6])) for at in range(5)]
        rows += [(text, (*moved[at::9][:2], *moved[at::9][:2])) for at in range(5)]
    return list(dict.fromkeys(rows))


def all_covers(row, most):
    """All covers for the demand of at most so many different cubes."""
    cubes = [cube for cube in cube_strings(size(row[0])) if is_defined_good(row, cube)]
    sets = [some for k in range(most + 1) for some in combinations(cubes, k)]
    return [some for some in sets if is_defined_cover(row, some)]


class SetsTest(unittest.TestCase):
    def test_against_all_sets(self):
        lengths = set()
        for row in rows_with_conflicts():
            smallest, largest = conflicts(demand_of(row)), greatest(demand_of(row))
            self.assertEqual(smallest, defined_conflicts(row), row)
            self.assertEqual(largest, defined_greatest(row), row)
            lengths.update(len(some) for some in smallest)
            for some in [*smallest, *largest]:
                self.assertIs(type(some), tuple)
                self.assertTrue(all(type(at) is int for at in some))
        self.assertEqual(lengths, {2, 3})

    def test_the_fact_that_binds_them(self):
        for row in rows_with_conflicts():
            smallest = [set(some) for some in conflicts(demand_of(row))]
            hits = [some for some in sets_of(row) if all(set(some) & conflict for conflict in smallest)]
            least = [some for some in hits if not any(set(other) < set(some) for other in hits)]
            outside = [tuple(at for at in range(len(row[1])) if at not in some) for some in least]
            self.assertEqual(sorted(outside), sorted(greatest(demand_of(row))), row)

    def test_by_hand(self):
        self.assertEqual(conflicts(demand_of(THREE)), [(0, 1), (1, 2)])
        self.assertEqual(greatest(demand_of(THREE)), [(0, 2), (1,)])
        self.assertEqual(conflicts(Demand(Table("01"))), [])
        self.assertEqual(greatest(Demand(Table("01"))), [()])
        changes = [("0", "1"), ("1", "0"), ("0", "1")]
        self.assertEqual(conflicts(demand=Demand(Table("01"), changes)), [])
        self.assertEqual(greatest(demand=Demand(Table("01"), changes)), [(0, 1, 2)])

    def test_the_same_change_twice(self):
        falls = EXAMPLE[1]
        demand = Demand(Table(EXAMPLE[0]), [falls[0], falls[1], falls[0]])
        self.assertEqual(conflicts(demand), [(0, 1), (1, 2)])
        self.assertEqual(greatest(demand), [(0, 2), (1,)])
        demand = Demand(Table(EXAMPLE[0]), [falls[0]] * 4 + [falls[1]] * 4)
        self.assertEqual(conflicts(demand), [(at, other) for at in range(4) for other in range(4, 8)])
        self.assertEqual(greatest(demand), [(0, 1, 2, 3), (4, 5, 6, 7)])

    def test_eight_changes(self):
        self.assertEqual(len(EIGHT[1]), 8)
        self.assertEqual(conflicts(demand_of(EIGHT)), defined_conflicts(EIGHT))
        self.assertEqual(greatest(demand_of(EIGHT)), defined_greatest(EIGHT))
        self.assertGreater(len(conflicts(demand_of(EIGHT))), 3)

    def test_a_set_of_three_conflicts_although_its_pairs_fit(self):
        self.assertEqual(conflicts(demand_of(TRIPLE)), [(0, 1, 2)])
        self.assertEqual(greatest(demand_of(TRIPLE)), [(0, 1), (0, 2), (1, 2)])

    def test_lists_that_the_caller_changes(self):
        demand = demand_of(THREE)
        for call in (conflicts, greatest):
            first = call(demand)
            whole = list(first)
            first.clear()
            self.assertEqual(call(demand), whole)
        self.assertEqual(demand, demand_of(THREE))


def defined_sure(row, change):
    """What [63] says for a plain change, of a demand that is not barred."""
    kind = kind_of(row[0], change)
    if kind == "low":
        return True
    if kind == "high":
        grown = grown_cover(demand_of(row))
        return any(set(inside(change)) <= contained(cube) for cube in grown)
    alone = (row[0], (change,))
    return not any(is_defined_good(row, cube) and defined_broken(alone, cube) for cube in cube_strings(size(row[0])))


class SurelyTest(unittest.TestCase):
    def check(self, row, change):
        found = surely(demand_of(row), change)
        if found is not None:
            self.assertIs(type(found), list)
            self.assertLessEqual(len(found), 40)
            self.assertIs(is_defined_cover(row, found), True, (row, change, found))
            self.assertIsNotNone(defined_why(change, found), (row, change, found))
        self.assertIs(found is None, defined_sure(row, change), (row, change, found))
        return found is None

    def test_each_plain_change(self):
        seen = set()
        for row in FITTING:
            changes = plain_of(row[0])
            for change in changes[::1 if len(changes) < 20 else 17]:
                seen.add((kind_of(row[0], change), self.check(row, change)))
        self.assertEqual(len(seen), 7)
        self.assertNotIn(("low", False), seen)

    def test_against_all_covers_of_small_tables(self):
        seen = set()
        for row in FEW:
            covers = all_covers(row, 4)
            for change in plain_of(row[0]):
                steady = all(defined_why(change, cover) is None for cover in covers)
                self.assertIs(surely(demand_of(row), change) is None, steady, (row, change))
                seen.add(steady)
        self.assertEqual(seen, {True, False})

    def test_all_sure(self):
        for row in FITTING[::2]:
            found = all_sure(demand_of(row))
            self.assertIs(type(found), list)
            self.assertEqual(found, [change for change in plain_of(row[0]) if defined_sure(row, change)], row)
            self.assertLessEqual(set(row[1]), set(found))

    def test_a_sure_change_more(self):
        for row in FITTING[::7]:
            demand = demand_of(row)
            sure = all_sure(demand)
            if len(demand) == 8 or len(defined_primes(row)) > 14:
                continue
            for change in sure[::1 if len(sure) < 9 else 11]:
                longer = demand + change
                self.assertEqual(good_primes(longer), good_primes(demand), (row, change))
                self.assertEqual(grown_cover(longer), grown_cover(demand), (row, change))
                self.assertEqual(least_covers(longer), least_covers(demand), (row, change))
                self.assertEqual(all_sure(longer), sure, (row, change))
                self.assertIsNone(implies(demand, longer))

    def test_eight_changes(self):
        for row in FITTING:
            if len(row[1]) == 8:
                for change in [*row[1], *plain_of(row[0])[::13]]:
                    self.check(row, change)

    def test_errors(self):
        for row in (("01010100", THREE[1][:1]), ("0110", ()), ("01", (("0", "1"),)), BRANCHING, EXAMPLE, EIGHT):
            demand = demand_of(row)
            for call in (surely, price):
                for thing in [*no_changes(size(row[0])), *unplain_of(row[0])]:
                    with self.assertRaises(InvalidChange) as caught:
                        call(demand, thing)
                    self.assertEqual(caught.exception.at, -1, (row, thing))

    def test_barred(self):
        for row in BARRED:
            demand = demand_of(row)
            calls = [lambda: all_sure(demand)]
            for change in [*row[1], *plain_of(row[0])[:2]]:
                calls += [lambda: surely(demand, change), lambda: price(demand, change)]
                for call in calls:
                    with self.assertRaises(NothingLeft) as caught:
                        call()
                    self.assertEqual(caught.exception.word, "cover")

    def test_answers_are_new_lists(self):
        demand = Demand(Table("0111"))
        rise, high = ("00", "11"), ("01", "11")
        for call in (lambda: surely(demand, rise), lambda: surely(demand, high), lambda: all_sure(demand)):
            first = call()
            whole = list(first)
            first.append("x")
            self.assertEqual(call(), whole)
        self.assertEqual(demand, Demand(Table("0111")))


class WelcomeTest(unittest.TestCase):
    def defined_welcome(self, row):
        return [change for change in plain_of(row[0]) if fits((row[0], (*row[1], change)), range(len(row[1]) + 1))]

    def test_each_plain_change(self):
        partly = 0
        rows = [row for row in FITTING if size(row[0]) < 4][::4] + [row for row in FITTING if size(row[0]) == 4][::12]
        for row in [*rows, BRANCHING]:
            found = welcome(demand_of(row))
            self.assertIs(type(found), list)
            self.assertEqual(found, self.defined_welcome(row), row)
            partly += len(found) < len(plain_of(row[0]))
        self.assertGreater(partly, 10)

    def test_against_all_covers_of_small_tables(self):
        for row in FEW:
            covers = all_covers(row, 4)
            steady = [c for c in plain_of(row[0]) if any(defined_why(c, cover) is None for cover in covers)]
            self.assertEqual(welcome(demand_of(row)), steady, row)

    def test_barred(self):
        for row in BARRED:
            self.assertEqual(welcome(demand=demand_of(row)), [])

    def test_sure_changes_are_welcome(self):
        for row in FITTING[::9]:
            demand = demand_of(row)
            self.assertLessEqual(set(all_sure(demand)), set(welcome(demand)), row)

    def test_demands_with_eight_changes(self):
        tried = 0
        for row in FITTING:
            if len(row[1]) == 8 and size(row[0]) < 4:
                tried += 1
                self.assertEqual(welcome(demand_of(row)), self.defined_welcome(row), row)
        self.assertGreater(tried, 5)

    def test_by_hand(self):
        demand = Demand(Table("01010100"), [("011", "000")])
        self.assertNotIn(("101", "000"), welcome(demand))
        self.assertIn(("011", "000"), welcome(demand))
        first = welcome(demand)
        whole = list(first)
        first.clear()
        self.assertEqual(welcome(demand), whole)


class ImpliesTest(unittest.TestCase):
    def check(self, row, other):
        found = implies(demand_of(row), demand_of(other))
        if defined_barred(row) is not None:
            self.assertIsNone(found, (row, other))
            return "barred"
        if found is None:
            self.assertTrue(all(defined_sure(row, change) for change in other[1]), (row, other))
            return "yes"
        self.assertIs(type(found), list)
        self.assertIs(is_defined_cover(row, found), True, (row, other, found))
        self.assertIs(is_defined_cover(other, found), False, (row, other, found))
        self.assertIs(is_cover_for(demand_of(other), found), False)
        return "no"

    def test_demands_with_one_table(self):
        texts = {}
        for row in [*ROWS, THREE, EIGHT, TRIPLE]:
            texts.setdefault(row[0], []).append(row)
        seen = {}
        for rows in texts.values():
            for row in rows[::2]:
                for other in rows[::3]:
                    answer = self.check(row, other)
                    seen[answer] = seen.get(answer, 0) + 1
                self.assertIsNone(implies(demand_of(row), demand_of(row)))
                self.assertIsNone(implies(demand_of(row), Demand(Table(row[0]))))
        self.assertGreater(min(seen[answer] for answer in ("barred", "yes", "no")), 20)

    def test_against_all_covers_of_small_tables(self):
        for row in FEW:
            covers = all_covers(row, 4)
            for change in plain_of(row[0]):
                other = (row[0], (change, *row[1][:1]))
                expected = all(is_defined_cover(other, cover) for cover in covers)
                self.assertIs(implies(demand_of(row), demand_of(other)) is None, expected, (row, other))

    def test_by_hand(self):
        table = Table("0111")
        plain, steady = Demand(table), Demand(table, [("00", "11")])
        self.assertIsNone(implies(other=plain, demand=steady))
        found = implies(plain, steady)
        self.assertIs(is_cover_for(plain, found), True)
        self.assertIs(is_cover_for(steady, found), False)
        self.assertIsNone(implies(demand_of(EXAMPLE), Demand(Table(EXAMPLE[0]), [("001", "011")])))
        found.append("x")
        self.assertNotIn("x", implies(plain, steady))


# Tables where calm changes cost more, without changes and with one that has its price.
PRICED = [("01010011", ()), ("11011001", ()), ("01110110", ()), ("11011001", (("000", "001"),)), ("1011-101", ())]


class PriceTest(unittest.TestCase):
    def defined_price(self, row, change):
        longer = (row[0], (*row[1], change))
        if not fits(longer, range(len(longer[1]))):
            return None
        sizes = []
        for some in (row, longer):
            primes = defined_primes(some)
            covers = []
            k = 0
            while not covers:
                covers = [cover for cover in combinations(primes, k) if is_defined_cover(some, cover)]
                k += 1
            sizes.append(min((len(c), sum(len(cube) - cube.count("-") for cube in c)) for c in covers))
        return (sizes[1][0] - sizes[0][0], sizes[1][1] - sizes[0][1])

    def test_against_the_words_of_the_document(self):
        seen = set()
        rows = [row for row in FITTING if size(row[0]) < 4 and len(defined_primes(row)) < 9]
        for row in [*rows[::5], *PRICED]:
            for change in plain_of(row[0])[::5 if row not in PRICED and size(row[0]) == 3 else 1]:
                found = price(demand_of(row), change)
                self.assertEqual(found, self.defined_price(row, change), (row, change))
                seen.add(found)
        self.assertLessEqual({None, (0, 0)}, seen)
        self.assertGreater(len(seen), 5)

    def test_against_least_size(self):
        some = 0
        for row in [*FITTING[::9], *CROWDED]:
            if len(row[1]) < 8:
                for change in plain_of(row[0])[::7 if row in FITTING else 2]:
                    demand = demand_of(row)
                    before, after = least_size(demand), least_size(demand + change)
                    expected = None if after is None else (after[0] - before[0], after[1] - before[1])
                    self.assertEqual(price(demand, change), expected, (row, change))
                    some += expected not in (None, (0, 0))
        self.assertGreater(some, 20)

    def test_facts(self):
        for row in FITTING[1::9]:
            demand = demand_of(row)
            for change in all_sure(demand)[::5]:
                self.assertEqual(price(demand, change), (0, 0), (row, change))
            for change in plain_of(row[0])[::23]:
                found = price(demand, change)
                if found is not None:
                    self.assertTrue(found >= (0, 0), (row, change, found))
                    self.assertEqual([type(number) for number in found], [int, int])

    def test_eight_changes_already(self):
        seen = set()
        for row in [row for row in FITTING if len(row[1]) == 8]:
            for change in plain_of(row[0])[::5]:
                if size(row[0]) < 4:
                    found = price(demand_of(row), change)
                    self.assertEqual(found, self.defined_price(row, change), (row, change))
                    seen.add(found)
        self.assertIn((0, 0), seen)
        self.assertGreater(len(seen), 2)

    def test_by_hand(self):
        demand = Demand(Table("0111"))
        self.assertEqual(price(demand, ("11", "00")), (0, 0))
        demand = Demand(Table("01010011"))
        self.assertEqual(least_covers(demand), [["0-1", "11-"]])
        self.assertEqual(price(demand, ("011", "111")), (1, 2))
        self.assertEqual(price(change=("111", "011"), demand=demand), (1, 2))
        self.assertIsNone(price(Demand(Table("01010100"), [("011", "000")]), ("101", "000")))


class LimitTest(unittest.TestCase):
    """No demand with more than 14 good primes is known, so other cubes join the good primes here."""

    def refused(self, demand, change):
        with self.assertRaises(LimitExceeded) as caught:
            price(demand, change)
        self.assertEqual(caught.exception.limit, 14)

    def test_fourteen_and_more_good_primes_of_the_demand(self):
        demand, change = Demand(Table("01010011")), ("011", "111")
        with mock.patch.object(least, "good_primes", lambda demand: many_primes(demand, 14)):
            self.assertEqual(price(demand, change), (1, 2))
        for count in (15, 16, 20):
            with mock.patch.object(least, "good_primes", lambda demand: many_primes(demand, count)):
                self.refused(demand, change)
                # This one has no price.
                self.refused(Demand(Table("01010100"), [("011", "000")]), ("101", "000"))
                with self.assertRaises(InvalidChange):
                    price(demand, ("011", "011"))
                with self.assertRaises(NothingLeft):
                    price(demand_of(EXAMPLE), EXAMPLE[1][0])

    def test_fourteen_and_more_good_primes_with_the_change(self):
        demand, change = Demand(Table("01010011")), ("011", "111")
        for count in (14, 15):
            with mock.patch.object(together, "largest", lambda _: many_primes(demand + change, count)):
                if count == 14:
                    self.assertEqual(price(demand, change), (1, 2))
                else:
                    self.refused(demand, change)
                self.assertIsNone(price(Demand(Table("01010100"), [("011", "000")]), ("101", "000")))


class OrderOfErrorsTest(unittest.TestCase):
    def test_no_plain_change_and_barred(self):
        for row in (EXAMPLE, EIGHT, TRIPLE):
            self.assertIsNotNone(defined_barred(row))
            for call in (surely, price):
                for thing in [*no_strings(), *unplain_of(row[0]), ("000", "000")]:
                    with self.assertRaises(InvalidChange) as caught:
                        call(change=thing, demand=demand_of(row))
                    self.assertEqual(caught.exception.at, -1)


class InterfaceTest(unittest.TestCase):
    def test_all_is_defined_in_this_file(self):
        for call in (conflicts, greatest, surely, all_sure, welcome, implies, price):
            self.assertEqual(call.__module__, together.__name__)

    def test_examples_of_the_document(self):
        rows = [("011", "000"), ("101", "000"), ("011", "001")]
        demand = Demand(Table("01010100"), rows)
        self.assertEqual([conflicts(demand), greatest(demand)], [[(0, 1), (1, 2)], [(0, 2), (1,)]])

    def test_nothing_changes_the_demand(self):
        for row in (THREE, EXAMPLE, BRANCHING, ("0111", ())):
            demand = demand_of(row)
            conflicts(demand)
            greatest(demand)
            welcome(demand)
            implies(demand, Demand(demand.table))
            self.assertEqual(demand, demand_of(row))
            self.assertEqual(shown(demand.table.text), shown(row[0]))


if __name__ == "__main__":
    unittest.main()
