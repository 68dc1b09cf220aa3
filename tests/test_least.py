"""Covers for a demand: points [50] to [56] and the interface under steadycover/least.py."""

import unittest
from itertools import combinations, product
from unittest import mock

from steadycover import least
from steadycover.covers import calm, misfit
from steadycover.errors import InvalidCover, LimitExceeded, NothingLeft
from steadycover.growth import Demand, is_good, needed
from steadycover.least import (
    essentials, grown_cover, is_cover_for, least_covers, least_size, needless, pruned, widened,
)
from steadycover.tables import Table
from tests.definitions import (
    BRANCHING, CROWDED, EXAMPLE, ROWS, SMALL, chosen_changes, defined_barred, defined_grown, defined_needed,
    defined_primes, demand_of, is_defined_cover, is_defined_good, many_primes, maximal,
)
from tests.samples import (
    EIGHTS, all_texts, contained, cube_strings, deep_dict, deep_list, deep_tuple, no_covers, no_strings,
    plain_of, shown, size,
)

OF_DEMAND_AND_COVER = (needless, pruned, widened)
FITTING = [row for row in ROWS if defined_barred(row) is None]
BARRED = [row for row in ROWS if defined_barred(row) is not None]
# A table with twelve primes, none of which is essential.
MANY = "0111111111111110"


def some_covers(row):
    """Covers of the table's size, many of them for the demand, and near misses of these."""
    n = size(row[0])
    cubes = cube_strings(n)
    good = [cube for cube in cubes if is_defined_good(row, cube)]
    primes = defined_primes(row)
    covers = [[], cubes[:40], cubes[-1:], good[:40], primes, primes[::-1], primes * 2 if len(primes) <= 20 else primes]
    covers += [primes[:at] + primes[at + 1:] for at in range(len(primes))]
    covers += [[*primes, cube][-40:] for cube in cubes[::5]]
    covers += [good[at::3][:40] for at in range(3)]
    if defined_barred(row) is None:
        grown = [defined_grown(row, cube)[0] for cube in defined_needed(row)]
        covers += [grown, grown[::-1], [*grown, *primes][:40], [*good[::2], *grown][-40:], grown[1:]]
    return covers


def covers_for(row):
    found = [cover for cover in some_covers(row) if is_defined_cover(row, cover)]
    return [found[k] for k in range(len(found)) if found[k] not in found[:k]]


def size_of(cover):
    return (len(cover), sum(len(cube) - cube.count("-") for cube in cover))


def defined_least(row, cubes):
    """All covers for the demand of as few of these cubes as possible, with as few literals as possible."""
    for k in range(len(cubes) + 1):
        found = [list(some) for some in combinations(cubes, k) if is_defined_cover(row, some)]
        if found:
            fewest = min(size_of(cover) for cover in found)
            return sorted(cover for cover in found if size_of(cover) == fewest)
    return []


class IsCoverForTest(unittest.TestCase):
    def test_all_small_covers(self):
        seen = set()
        for text in [*all_texts(1), *all_texts(2)[::4]]:
            for changes in chosen_changes(text)[1::3]:
                row = (text, changes)
                demand = demand_of(row)
                cubes = cube_strings(demand.table.n)
                for k in range(4 if demand.table.n == 1 else 3):
                    for cover in product(cubes, repeat=k):
                        expected = is_defined_cover(row, cover)
                        self.assertIs(is_cover_for(demand, cover), expected, (row, cover))
                        self.assertIs(is_cover_for(demand, list(cover)), expected, (row, cover))
                        seen.add(expected)
        self.assertEqual(seen, {True, False})

    def test_against_misfit_and_calm_and_against_good_and_needed_cubes(self):
        seen = {}
        for row in ROWS[::2]:
            demand = demand_of(row)
            for cover in some_covers(row):
                found = is_cover_for(demand, cover)
                fits, steady = misfit(demand.table, cover) is None, all(calm(change, cover) for change in row[1])
                self.assertIs(found, fits and steady, (row, cover))
                self.assertIs(found, is_defined_cover(row, cover), (row, cover))
                held = all(any(contained(cube) <= contained(one) for one in cover) for cube in needed(demand))
                self.assertIs(found, held and all(is_good(demand, cube) for cube in cover), (row, cover))
                seen[fits, steady] = True
        self.assertEqual(len(seen), 4)

    def test_free_points_may_be_covered_or_not(self):
        demand = Demand(Table("1-00"))
        for cover, expected in ((["0-"], True), (["00"], True), (["00", "01"], True), (["01"], False), (["--"], False)):
            self.assertIs(is_cover_for(demand, cover), expected)

    def test_the_same_product_several_times(self):
        demand = Demand(Table("0111"), [("11", "00")])
        self.assertIs(is_cover_for(demand, ["1-", "-1"] * 20), True)
        self.assertIs(is_cover_for(demand, ("1-", "-1") * 20), True)
        self.assertIs(is_cover_for(demand, ["1-", "-1"] * 20 + ["1-"]), False)
        self.assertIs(is_cover_for(demand, ["1-", "01"] * 20), False)

    def test_things_that_are_no_covers(self):
        for row in (EXAMPLE, ("01", (("0", "1"),)), ("00", ()), ("--", ()), BRANCHING):
            demand = demand_of(row)
            for thing, _ in no_covers(demand.table.n):
                self.assertIs(is_cover_for(demand, thing), False, thing)
        demand = Demand(Table("0-00"))
        self.assertIs(is_cover_for(demand, []), True)
        self.assertIs(is_cover_for(demand, ()), True)
        self.assertIs(is_cover_for(demand, ["01"]), True)
        for thing in [*no_strings(), deep_list(20), deep_tuple(20), deep_dict(20), [deep_list(19)], demand, "", {}]:
            if not isinstance(thing, (list, tuple)) or thing not in ([], (), ["01"], ("01",)):
                self.assertIs(is_cover_for(demand, thing), False, thing)

    def test_arguments_by_name(self):
        self.assertIs(is_cover_for(thing=["1"], demand=Demand(Table("01"))), True)
        self.assertIs(is_cover_for(thing=["0"], demand=Demand(Table("01"))), False)


class GrownCoverTest(unittest.TestCase):
    def test_against_the_words_of_the_document(self):
        for row in FITTING:
            demand = demand_of(row)
            cover = grown_cover(demand)
            lasts = [defined_grown(row, cube)[0] for cube in defined_needed(row)]
            self.assertIs(type(cover), list)
            self.assertEqual(cover, maximal(lasts), row)
            self.assertIs(is_defined_cover(row, cover), True, row)
            self.assertEqual(needless(demand, cover), [], row)

    def test_each_cover_holds_its_cubes(self):
        for row in FITTING[::3]:
            grown = grown_cover(demand_of(row))
            for cover in covers_for(row):
                for cube in grown:
                    self.assertTrue(any(contained(cube) <= contained(product) for product in cover), (row, cover, cube))

    def test_barred(self):
        self.assertGreater(len(BARRED), 5)
        for row in BARRED:
            with self.assertRaises(NothingLeft) as caught:
                grown_cover(demand_of(row))
            self.assertEqual(caught.exception.word, "cover")

    def test_by_hand(self):
        self.assertEqual(grown_cover(Demand(Table("0111"))), ["01", "10", "11"])
        self.assertEqual(grown_cover(Demand(Table("0111"), [("11", "00")])), ["-1", "1-"])
        self.assertEqual(grown_cover(Demand(Table("0-00"))), [])
        self.assertEqual(grown_cover(demand=Demand(Table("1111"), [("00", "11")])), ["--"])
        # Two needed cubes grow to the same cube, which then holds another one, too.
        demand = Demand(Table("01111111"), [("000", "110"), ("011", "000")])
        self.assertEqual(needed(demand), ["-10", "0-1", "01-", "1-0", "101", "111"])
        self.assertEqual(grown_cover(demand), ["-1-", "0-1", "1-0", "101"])


class CoverOfDemandTest(unittest.TestCase):
    def test_needless(self):
        seen = set()
        for row in FITTING[::3]:
            demand = demand_of(row)
            for cover in covers_for(row):
                rests = [cover[:at] + cover[at + 1:] for at in range(len(cover))]
                expected = [at for at, rest in enumerate(rests) if is_defined_cover(row, rest)]
                self.assertEqual(needless(demand, cover), expected, (row, cover))
                self.assertEqual(needless(demand, tuple(cover)), expected, (row, cover))
                seen.add(len(expected))
        self.assertGreater(len(seen), 5)

    def test_pruned(self):
        seen = set()
        for row in FITTING[1::3]:
            demand = demand_of(row)
            for cover in covers_for(row):
                left = list(cover)
                # From the first to the last, of the products that are left.
                at = 0
                while at < len(left):
                    if is_defined_cover(row, left[:at] + left[at + 1:]):
                        del left[at]
                    else:
                        at += 1
                found = pruned(demand, cover)
                self.assertEqual(found, left, (row, cover))
                self.assertEqual(pruned(demand, tuple(cover)), left, (row, cover))
                self.assertIs(is_defined_cover(row, found), True)
                self.assertEqual(needless(demand, found), [])
                seen.add(len(cover) - len(found))
        self.assertGreater(len(seen), 5)

    def test_widened(self):
        changed = 0
        for row in FITTING[2::3]:
            demand = demand_of(row)
            primes = defined_primes(row)
            for cover in covers_for(row):
                found = widened(demand, cover)
                expected = [[p for p in primes if contained(cube) <= contained(p)][0] for cube in cover]
                self.assertEqual(found, expected, (row, cover))
                self.assertEqual(widened(demand, tuple(cover)), expected, (row, cover))
                self.assertIs(is_defined_cover(row, found), True)
                changed += found != list(cover)
        self.assertGreater(changed, 50)

    def test_by_hand(self):
        demand = Demand(Table("0111"))
        self.assertEqual(needless(demand, ["1-", "-1", "11"]), [2])
        self.assertEqual(needless(demand, ["1-", "1-", "-1"]), [0, 1])
        self.assertEqual(pruned(demand, ["1-", "1-", "-1"]), ["1-", "-1"])
        self.assertEqual(pruned(demand, ["11", "1-", "-1", "01"]), ["1-", "01"])
        self.assertEqual(pruned(demand, ("01", "11", "10", "-1")), ["10", "-1"])
        self.assertEqual(widened(demand, ["01", "11", "10"]), ["-1", "-1", "1-"])
        self.assertEqual(widened(Demand(Table("00")), []), [])
        for call in OF_DEMAND_AND_COVER:
            self.assertIs(type(call(cover=("1-", "-1"), demand=demand)), list)

    def test_forty_and_forty_one_products(self):
        demand = Demand(Table("0111"), [("11", "00")])
        forty = ["1-", "-1", "11", "1-"] * 10
        self.assertEqual(needless(demand, forty), list(range(40)))
        self.assertEqual(pruned(demand, forty), ["-1", "1-"])
        self.assertEqual(widened(demand, tuple(forty)), ["1-", "-1", "-1", "1-"] * 10)
        for call in OF_DEMAND_AND_COVER:
            self.refused(-1, call, demand, [*forty, "1-"])
            self.refused(-1, call, demand, (*forty, "x"))

    def refused(self, at, call, *things, **named):
        with self.assertRaises(InvalidCover) as caught:
            call(*things, **named)
        self.assertEqual(caught.exception.at, at, (call, things, named))

    def test_things_that_are_no_covers(self):
        for text in ("01", "0111", "01010100", MANY):
            demand = Demand(Table(text), plain_of(text)[:1])
            for thing, at in no_covers(demand.table.n):
                for call in OF_DEMAND_AND_COVER:
                    self.refused(at, call, demand, thing)

    def test_a_wrong_item_at_each_place(self):
        row = ("11011001", (("000", "001"),))
        cover = defined_primes(row)
        for at in range(len(cover) + 1):
            for wrong in (None, "x", "1", "--", "----", 1, ["1", "-", "-"], ("-", "-", "-"), b"---"):
                for call in OF_DEMAND_AND_COVER:
                    self.refused(at, call, demand_of(row), [*cover[:at], wrong, *cover[at:]])
                    self.refused(at, call, demand_of(row), (*cover[:at], wrong, *cover[at:], None))

    def test_covers_that_are_not_for_the_demand(self):
        count = 0
        for row in ROWS[::2]:
            demand = demand_of(row)
            for cover in some_covers(row)[::2]:
                if not is_defined_cover(row, cover):
                    count += 1
                    for call in OF_DEMAND_AND_COVER:
                        self.refused(-2, call, demand, cover)
                        self.refused(-2, call, demand, tuple(cover))
        self.assertGreater(count, 500)
        for call in OF_DEMAND_AND_COVER:
            self.refused(-2, call, demand_of(EXAMPLE), ["011", "101", "001"])
            self.refused(-2, call, cover=[], demand=Demand(Table("01")))

    def test_the_cover_stays_and_the_answers_are_new(self):
        demand = Demand(Table("0111"))
        cover = ["1-", "11", "-1"]
        for call in OF_DEMAND_AND_COVER:
            first = call(demand, cover)
            whole = list(first)
            first.append("x")
            first[0] = "y"
            self.assertEqual(call(demand, cover), whole)
            self.assertEqual(cover, ["1-", "11", "-1"])


class LeastTest(unittest.TestCase):
    def test_small_tables_against_all_sets_of_cubes(self):
        # All good cubes, not only the primes, so that nothing is taken for granted.
        for text in [*all_texts(1), *all_texts(2)[::3]]:
            for changes in chosen_changes(text)[::2]:
                row = (text, changes)
                good = [cube for cube in cube_strings(size(text)) if is_defined_good(row, cube)]
                self.assertEqual(least_covers(demand_of(row)), defined_least(row, good), row)

    def test_all_sets_of_good_primes(self):
        several = 0
        for row in ROWS:
            primes = defined_primes(row)
            if len(primes) <= 9:
                expected = [] if defined_barred(row) else defined_least(row, primes)
                found = least_covers(demand_of(row))
                self.assertEqual(found, expected, row)
                self.assertEqual(least_size(demand_of(row)), size_of(expected[0]) if expected else None, row)
                several += len(found) > 1
        self.assertGreater(several, 15)

    def test_larger_tables(self):
        for row in CROWDED:
            primes = defined_primes(row)
            self.assertGreater(len(primes), 9)
            found = least_covers(demand_of(row))
            self.assertEqual(found, defined_least(row, primes), row)
            self.assertEqual(least_size(demand_of(row)), size_of(found[0]))
            # Covers of as many products, some of them with more literals.
            same = [some for some in combinations(primes, len(found[0])) if is_defined_cover(row, some)]
            self.assertGreater(len(same), len(found))

    def test_literals_decide_between_covers_of_as_many_products(self):
        self.assertEqual(least_covers(Demand(Table("000----1"))), [["1--"]])
        self.assertEqual(least_size(Demand(Table("000----1"))), (1, 1))
        self.assertEqual(least_covers(Demand(Table("11011001"))), [["-00", "-11", "0-1"], ["-00", "-11", "00-"]])

    def test_no_on_point(self):
        for text in ("00", "--", "0-", "0000", "-0-0", "-" * 8, "0" * 16, "0---0---0---0---"):
            for changes in ((), tuple(plain_of(text)[:8])):
                self.assertEqual(least_covers(demand_of((text, changes))), [[]])
                self.assertEqual(least_size(demand_of((text, changes))), (0, 0))

    def test_barred(self):
        for row in BARRED:
            self.assertEqual(least_covers(demand_of(row)), [])
            self.assertIsNone(least_size(demand_of(row)))

    def test_twelve_and_thirteen_good_primes(self):
        counts = set()
        for text in ("0-1010---0-1--01", "0111-1-0-00-0--1", MANY):
            demand = Demand(Table(text))
            counts.add(len(defined_primes((text, ()))))
            found = least_covers(demand)
            self.assertTrue(all(is_defined_cover((text, ()), cover) for cover in found))
            self.assertEqual({size_of(cover) for cover in found}, {least_size(demand)})
        self.assertEqual(counts, {12, 13})

    def test_fourteen_and_more_good_primes(self):
        # No such demand is known, so an off point joins the good primes here.
        demand = Demand(Table("11011001"))
        for count in (14, 15, 16, 40):
            with mock.patch.object(least, "good_primes", lambda demand: many_primes(demand, count)):
                if count == 14:
                    self.assertEqual(least_covers(demand), [["-00", "-11", "0-1"], ["-00", "-11", "00-"]])
                    self.assertEqual(least_size(demand), (3, 6))
                    continue
                for call in (least_covers, least_size):
                    with self.assertRaises(LimitExceeded) as caught:
                        call(demand)
                    self.assertEqual(caught.exception.limit, 14)
                # A barred demand comes before the limit, and the essential primes have none.
                self.assertEqual(least_covers(demand_of(EXAMPLE)), [])
                self.assertIsNone(least_size(demand=demand_of(EXAMPLE)))
                self.assertEqual(essentials(demand), ["-00", "-11"])

    def test_facts(self):
        for row in FITTING:
            primes = defined_primes(row)
            if len(primes) > 14:
                continue
            demand = demand_of(row)
            found = least_covers(demand)
            self.assertEqual(found, sorted(found))
            for cover in found:
                self.assertIs(type(cover), list)
                self.assertEqual(cover, sorted(set(cover)))
                self.assertIs(is_defined_cover(row, cover), True)
                self.assertEqual(size_of(cover), least_size(demand))
                self.assertLessEqual(set(cover), set(primes))
                self.assertLessEqual(set(essentials(demand)), set(cover))

    def test_lists_that_the_caller_changes(self):
        demand = Demand(Table("11011001"))
        first = least_covers(demand)
        first[0].append("x")
        first.pop()
        self.assertEqual(least_covers(demand), [["-00", "-11", "0-1"], ["-00", "-11", "00-"]])
        essentials(demand).clear()
        self.assertEqual(essentials(demand), ["-00", "-11"])


class EssentialsTest(unittest.TestCase):
    def test_against_the_words_of_the_document(self):
        seen = set()
        for row in ROWS:
            primes = defined_primes(row)
            holders = [[p for p in primes if contained(cube) <= contained(p)] for cube in defined_needed(row)]
            expected = [prime for prime in primes if [prime] in holders]
            self.assertEqual(essentials(demand_of(row)), expected, row)
            seen.add((defined_barred(row) is None, bool(expected), len(expected) == len(primes)))
        self.assertGreater(len(seen), 4)

    def test_by_hand(self):
        self.assertEqual(essentials(Demand(Table("11011001"))), ["-00", "-11"])
        self.assertEqual(essentials(Demand(Table("11011001"), [("000", "001")])), ["-00", "-11", "00-"])
        self.assertEqual(essentials(Demand(Table("0000"))), [])
        # Barred: neither of the needed cubes -01 and 0-1 is held by a good prime.
        self.assertEqual(essentials(demand=demand_of(EXAMPLE)), [])
        # Barred, and a needed cube elsewhere has just one good prime.
        text, changes = EXAMPLE[0] + "0000000" + "1", tuple(("0" + s, "0" + e) for s, e in EXAMPLE[1])
        self.assertIsNotNone(defined_barred((text, changes)))
        self.assertIn("1111", essentials(demand_of((text, changes))))

    def test_all_and_none_of_many(self):
        text = "0110100110010110"
        self.assertEqual(essentials(Demand(Table(text))), [point for point, sign in shown(text).items() if sign == "1"])
        self.assertEqual(essentials(Demand(Table(MANY))), [])


class InterfaceTest(unittest.TestCase):
    def test_all_is_defined_in_this_file(self):
        calls = (is_cover_for, grown_cover, needless, pruned, widened, least_covers, least_size, essentials)
        for call in calls:
            self.assertEqual(call.__module__, least.__name__)

    def test_examples_of_the_document(self):
        demand = Demand(Table("11011001"))
        found = [essentials(demand), least_covers(demand), least_size(demand)]
        self.assertEqual(found, [["-00", "-11"], [["-00", "-11", "0-1"], ["-00", "-11", "00-"]], (3, 6)])
        demand = Demand(Table("11011001"), [("000", "001")])
        self.assertEqual([least_covers(demand), least_size(demand)], [[["-00", "-11", "00-"]], (3, 6)])

    def test_nothing_changes_the_demand(self):
        for row in [EXAMPLE, BRANCHING, *SMALL[::60], *((text, ()) for text in EIGHTS[::4])]:
            demand = demand_of(row)
            for call in (least_covers, least_size, essentials, grown_cover):
                try:
                    call(demand)
                except (NothingLeft, LimitExceeded):
                    pass
            self.assertEqual(demand, demand_of(row))
            self.assertEqual(demand.changes, row[1])


if __name__ == "__main__":
    unittest.main()
