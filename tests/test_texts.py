"""Texts of demands, covers and trees: points [90] to [94] and the interface under steadycover/texts.py."""

import unittest
from functools import cache
from itertools import product

from steadycover import texts
from steadycover.errors import InvalidCover, InvalidText, InvalidTree
from steadycover.growth import Demand
from steadycover.tables import Table
from steadycover.texts import read_sheet, read_tree, write_sheet, write_tree
from tests.definitions import EXAMPLE, ROWS, demand_of, unplain_of
from tests.samples import (
    EIGHTS, LENGTHS, SIXTEENS, SIZES, STRANGE_STRINGS, cube_strings, no_covers, no_strings, plain_of, point_strings,
    size,
)
from tests.some_trees import IN, ONE, ZERO, chosen_trees, no_nodes, nodes_of, tall, wide, with_node

TABLES = ("01", "-1", "0111", "-001", "01010100", "0-1-01-1", "0111111111111110", "0-1-0-1-10-01-01")


def defined_sheet(row, cover):
    text, changes = row
    lines = ["table " + text, *["change " + start + " " + end for start, end in changes]]
    if cover is not None:
        lines += ["cover", *["product " + cube for cube in cover]]
    return "".join(line + "\n" for line in lines)


@cache
def change_lines(table):
    return {f"change {start} {end}" for start, end in plain_of(table)}


@cache
def product_lines(n):
    return {"product " + cube for cube in cube_strings(n)}


def is_right_line(line, before):
    """What [92] says of a line, without its newline, behind the lines before it, which are right."""
    if not before:
        parts = line.split(" ")
        if len(parts) != 2 or parts[0] != "table":
            return False
        return len(parts[1]) in LENGTHS.values() and set(parts[1]) <= set("01-")
    table = before[0][6:]
    products = [other for other in before if other.startswith("product")]
    if "cover" in before:
        return line in product_lines(size(table)) and len(products) < 40
    if line == "cover":
        return True
    return line in change_lines(table) and len(before) < 9


def first_wrong_line(text):
    """The number of the first wrong line, or None."""
    if not text:
        return 1
    lines = text.split("\n")
    for at, line in enumerate(lines[:-1]):
        if not is_right_line(line, lines[:at]):
            return at + 1
    return len(lines) if lines[-1] else None


def sheets():
    rows = []
    for text in TABLES:
        plain, cubes = (plain_of(text) * 8), cube_strings(size(text))
        for k in range(9):
            for cover in (None, [], cubes[:1], cubes[-2:] * 2, (cubes * 14)[:40]):
                rows.append(((text, tuple(plain[k:2 * k])), cover))
    return rows


SHEETS = sheets()


class WriteSheetTest(unittest.TestCase):
    def test_written_and_read_back(self):
        for row, cover in SHEETS:
            demand = demand_of(row)
            text = write_sheet(demand, cover)
            self.assertEqual(text, defined_sheet(row, cover))
            if cover is None:
                self.assertEqual(write_sheet(demand), text)
            else:
                self.assertEqual(write_sheet(demand, tuple(cover)), text)
            found = read_sheet(text)
            self.assertIs(type(found), tuple)
            self.assertEqual(found, (demand, cover))
            self.assertIs(type(found[0]), Demand)
            self.assertIs(type(found[1]), type(cover))
            self.assertEqual(write_sheet(*found), text)

    def test_many_demands(self):
        for row in ROWS[::3]:
            self.assertEqual(read_sheet(write_sheet(demand_of(row))), (demand_of(row), None))
        for text in (*EIGHTS, *SIXTEENS, "00", "--", "1111"):
            self.assertEqual(write_sheet(Demand(Table(text)), []), f"table {text}\ncover\n")
            self.assertEqual(read_sheet(f"table {text}\ncover\n"), (Demand(Table(text)), []))

    def test_by_hand(self):
        demand = Demand(Table("01010100"), EXAMPLE[1])
        text = "table 01010100\nchange 011 000\nchange 101 000\ncover\nproduct 0-1\nproduct -01\n"
        self.assertEqual(write_sheet(demand, ["0-1", "-01"]), text)
        self.assertEqual(write_sheet(cover=("0-1", "-01"), demand=demand), text)
        self.assertEqual(read_sheet(text=text), (demand, ["0-1", "-01"]))
        self.assertEqual(write_sheet(Demand(Table("01"))), "table 01\n")
        self.assertEqual(read_sheet("table 01\n"), (Demand(Table("01")), None))

    def test_wrong_covers(self):
        for text in TABLES:
            demand = Demand(Table(text), plain_of(text)[:2])
            for thing, at in no_covers(size(text)):
                if thing is not None:
                    with self.assertRaises(InvalidCover) as caught:
                        write_sheet(demand, thing)
                    self.assertEqual(caught.exception.at, at, thing)

    def test_covers_are_not_changed_and_answers_are_new(self):
        cover = ["0-", "1-"]
        text = write_sheet(Demand(Table("0111")), cover)
        self.assertEqual(cover, ["0-", "1-"])
        _, found = read_sheet(text)
        found.append("x")
        self.assertEqual(read_sheet(text)[1], cover)


class ReadSheetTest(unittest.TestCase):
    def check(self, text):
        line = first_wrong_line(text)
        if line is None:
            demand, cover = read_sheet(text)
            self.assertEqual(write_sheet(demand, cover), text)
            return None
        with self.assertRaises(InvalidText) as caught:
            read_sheet(text)
        self.assertEqual(caught.exception.line, line, text)
        return line

    def refused(self, line, text):
        self.assertEqual(self.check(text), line, text)

    def test_things_that_are_no_strings(self):
        for thing in [*no_strings(), b"table 01\n", ["table 01\n"], ("table 01",), None]:
            with self.assertRaises(InvalidText) as caught:
                read_sheet(thing)
            self.assertEqual(caught.exception.line, 0, thing)

    def other_lines(self, line):
        """Lines that are like this one, or stand elsewhere, or nowhere."""
        word, *rest = line.split(" ")
        found = [
            "", " ", word, word + " ", " " + line, line + " ", line.replace(" ", "  "), line.replace(" ", "\t"),
            line + "\r",
            line.upper(), line.replace(" ", ""), line + " 0", line + "0", line[:-1], line[1:], word + " " + line, "x",
            "table", "table 01", "table 0", "table 012", "table 0111 ", "table 01111111", "table " + "0" * 16,
            "table " + "0" * 32,
            "table 000", "table 0x", "table 0 1", "cover", "cover ", " cover", "Cover", "covers", "cover 0",
            "product", "change",
            *["change " + " ".join(two) for n in SIZES for two in product(point_strings(n)[:3], repeat=2)],
            "change 0 1 0", "change 0-1", "change 0 -", "change 0-- 111", "change 0  1", "change 00 11", "change  0 1",
            *["product " + cube for n in SIZES for cube in cube_strings(n)[:4]], "product x", "product 0 1",
            "product  0",
            "product " + "-" * 5, "product", "product ", word + "\x0b" + " ".join(rest), "\u0661", line + "\x00",
            "table \u0660\u0661",
        ]
        return found + [word + " " + strange for strange in STRANGE_STRINGS if "\n" not in strange]

    def test_each_line_replaced_put_in_and_left_out(self):
        seen = set()
        for number, (row, cover) in enumerate(SHEETS[3::7]):
            lines = defined_sheet(row, cover).split("\n")[:-1]
            for at in range(len(lines)):
                if at > 12 and at % 9:
                    continue
                for other in self.other_lines(lines[at])[(number + at) % 3::3]:
                    for changed in ([*lines[:at], other, *lines[at + 1:]], [*lines[:at], other, *lines[at:]]):
                        seen.add(self.check("".join(line + "\n" for line in changed)))
                seen.add(self.check("".join(line + "\n" for line in [*lines[:at], *lines[at + 1:]])))
                self.check("".join(line + "\n" for line in [*lines, lines[at]]))
        self.assertLessEqual({None, *range(1, 13)}, seen)

    def test_each_beginning_of_a_sheet(self):
        for row, cover in SHEETS[4::9]:
            text = defined_sheet(row, cover)
            for at in range(len(text)):
                self.check(text[:at])
            blanks = ("\n", " ", "\n\n", " \n", "\r\n")
            for rest in (*blanks, "x", "cover", "cover\n", "product 0", "change 0 1", "table 01"):
                self.check(text + rest)
                self.check(rest + text)
            self.check(text.replace("\n", "\r\n"))
            self.check(text.replace("\n", "\n\n"))
            self.check(text + text)

    def test_two_wrong_lines(self):
        self.refused(2, "table 01\nx\ncover\nproduct 2\n")
        self.refused(1, "table 0\nx\n")
        self.refused(2, "table 01\nchange 0 0\nproduct 0\n")
        self.refused(4, "table 01\nchange 0 1\ncover\nproduct x\nproduct 0")
        self.refused(3, "table 01\ncover\nchange 0 1")

    def test_by_hand(self):
        self.refused(1, "")
        self.refused(1, "\n")
        self.refused(1, "table 01")
        self.refused(1, "cover\n")
        self.refused(1, "change 0 1\n")
        self.refused(2, "table 01\ntable 01\n")
        self.refused(2, "table 01\nproduct 0\n")
        self.refused(2, "table 01\n\n")
        self.refused(2, "table 01\ncover")
        self.refused(3, "table 01\ncover\ncover\n")
        self.refused(3, "table 01\ncover\nchange 0 1\n")
        self.refused(3, "table 01\ncover\nproduct 0")
        self.refused(3, "table 01\nchange 0 1\nproduct 0\n")
        self.refused(2, "table 01\nchange 0 1")

    def test_changes_that_are_not_plain(self):
        for text in ("0110", "-101", "01010100", "0-1-01-1"):
            for start, end in unplain_of(text):
                self.refused(2, f"table {text}\nchange {start} {end}\n")
                first = " ".join(plain_of(text)[0])
                self.refused(3, f"table {text}\nchange {first}\nchange {start} {end}\ncover\n")
            for point in point_strings(size(text)):
                self.refused(2, f"table {text}\nchange {point} {point}\n")

    def test_eight_and_nine_changes(self):
        for many in range(12):
            text = "table 01\n" + "change 0 1\n" * many
            for whole in (text, text + "cover\n", text + "cover\nproduct 1\n", text + "x\n", text + "cover"):
                line = self.check(whole)
                if many > 8:
                    self.assertEqual(line, 10)
        self.refused(10, "table 01\n" + "change 0 1\n" * 8 + "change 0 0\n")
        self.refused(9, "table 01\n" + "change 0 1\n" * 7 + "change 0 0\n" + "change 0 1\n" * 3)

    def test_forty_and_forty_one_products(self):
        for many in (38, 39, 40, 41, 42, 100):
            for changes in (0, 1, 8):
                text = "table 01\n" + "change 0 1\n" * changes + "cover\n" + "product 1\n" * many
                for whole in (text, text + "x\n", text + "product 1", text[:-1]):
                    line = self.check(whole)
                    if many > 41:
                        self.assertEqual(line, changes + 43)


# The texts of the trees with these leaves, up to a length, whatever the depth.
@cache
def texts_of_length(length):
    found = {1: ["0", "1"], 2: ["x0", "x3"]}.get(length, [])
    found = found + ["!" + text for text in (texts_of_length(length - 1) if length > 1 else [])]
    for inner in rows_of_length(length - 3) if length > 3 else []:
        found += ["&(" + inner + ")", "|(" + inner + ")"]
    return found


@cache
def rows_of_length(length):
    """One or more texts with commas between them."""
    found = list(texts_of_length(length))
    for first in range(1, length - 1):
        found += [text + "," + rest for text in texts_of_length(first) for rest in rows_of_length(length - first - 1)]
    return found


def first_wrong_character(text):
    """The index of the first wrong character, told character by character, or None."""
    # Each open node waits for something: a tree, a digit, a bracket, or what stands behind a part.
    waiting = ["tree 1"]
    leaves = 0
    for at, sign in enumerate(text):
        if not waiting:
            return at
        what, *level = waiting.pop().split(" ")
        deep = int(level[0]) if level else 0
        if what == "tree":
            if deep > 8 or sign not in "x01!&|" or (sign in "x01" and leaves == 240):
                return at
            leaves += sign in "x01"
            bracket = [f"bracket {deep}"]
            waiting += {"x": ["digit"], "!": [f"tree {deep + 1}"], "&": bracket, "|": bracket}.get(sign, [])
        elif what == "digit":
            if sign not in "0123":
                return at
        elif what == "bracket":
            if sign != "(":
                return at
            waiting += [f"behind {deep}", f"tree {deep + 1}"]
        elif sign == ",":
            waiting += [f"behind {deep}", f"tree {deep + 1}"]
        elif sign != ")":
            return at
    return len(text) if waiting else None


def defined_text(tree):
    """What [93] says."""
    if tree[0] == "in":
        return "x" + "0123"[tree[1]]
    if tree[0] in ("one", "zero"):
        return "1" if tree[0] == "one" else "0"
    if tree[0] == "not":
        return "!" + defined_text(tree[1])
    return ("&" if tree[0] == "and" else "|") + "(" + ",".join(map(defined_text, tree[1])) + ")"


class TreeTextTest(unittest.TestCase):
    def test_written_and_read_back(self):
        trees = [tree for n in SIZES for tree in chosen_trees(n)]
        trees += [wide(240), wide(240, "and", ONE), tall(8), tall(8, ZERO, ("not",)), *[("in", i) for i in range(4)]]
        for tree in trees:
            text = write_tree(tree)
            self.assertEqual(text, defined_text(tree))
            self.assertEqual(read_tree(text), tree)
            self.assertIs(type(read_tree(text)), tuple)

    def test_by_hand(self):
        tree = ("or", (("and", (IN, ("not", ("in", 2)))), ONE))
        self.assertEqual(write_tree(tree), "|(&(x0,!x2),1)")
        self.assertEqual(write_tree(tree=tree), "|(&(x0,!x2),1)")
        self.assertEqual(read_tree(text="|(&(x0,!x2),1)"), tree)
        self.assertEqual(write_tree(ZERO), "0")
        self.assertEqual(read_tree("!!x3"), ("not", ("not", ("in", 3))))
        self.assertEqual(read_tree("&(1)"), ("and", (ONE,)))
        self.assertIs(type(read_tree("x1")[1]), int)

    def test_trees_that_are_no_trees(self):
        for thing in no_nodes(4):
            gates = ("or", (IN, ("and", (ONE, thing, thing))))
            for tree, path in ((thing, ()), (("not", thing), (0,)), (gates, (1, 1))):
                with self.assertRaises(InvalidTree) as caught:
                    write_tree(tree)
                self.assertEqual(caught.exception.path, path)
        for tree, path in ((wide(241), (240,)), (tall(9), (0,) * 8), (("in", 4), ())):
            with self.assertRaises(InvalidTree) as caught:
                write_tree(tree)
            self.assertEqual(caught.exception.path, path)

    def check(self, text):
        at = first_wrong_character(text)
        if at is None:
            self.assertEqual(write_tree(read_tree(text)), text)
            return None
        with self.assertRaises(InvalidText) as caught:
            read_tree(text)
        self.assertEqual(caught.exception.line, at, text)
        return at

    def refused(self, at, text):
        self.assertEqual(self.check(text), at, text)

    def test_things_that_are_no_strings(self):
        for thing in [*no_strings(), b"x0", b"1", ["1"], ("x0",), 1, 0, ONE, IN]:
            with self.assertRaises(InvalidText) as caught:
                read_tree(thing)
            self.assertEqual(caught.exception.line, -1, thing)

    def test_short_texts_against_all_texts_of_trees(self):
        whole = {text for length in range(1, 10) for text in texts_of_length(length)}
        beginnings = {text[:at] for text in whole for at in range(len(text) + 1)}
        for length in range(5):
            for signs in product("013x!&|(,)", repeat=length):
                text = "".join(signs)
                if "x1" in text:
                    continue
                if text in whole:
                    self.assertEqual(self.check(text), None)
                    continue
                at = 0
                while at < length and text[:at + 1] in beginnings:
                    at += 1
                self.refused(at, text)

    def test_each_character_replaced_put_in_and_left_out(self):
        seen = set()
        trees = [tree for n in SIZES for tree in chosen_trees(n) if len(defined_text(tree)) < 60]
        for tree in [*trees[::15], tall(8), tall(7, ONE), ("or", (("and", (IN, ("not", ("in", 2)))), ONE))]:
            text = defined_text(tree)
            for at in range(len(text) + 1):
                for sign in "x0123456789!&|(),X -.\n\t[]{}\u0661\uff11\x00a":
                    seen.add(self.check(text[:at] + sign + text[at:]) is None)
                    self.check(text[:at] + sign + text[at + 1:])
                self.check(text[:at] + text[at + 1:])
                self.check(text[:at])
                self.check(text[at:])
        self.assertEqual(seen, {True, False})

    def test_wrong_characters_by_hand(self):
        for at, text in (
            (0, ""), (0, " "), (0, " 1"), (1, "1 "), (1, "x4"), (1, "x"), (1, "x-1"), (2, "x01"), (2, "x00"),
            (1, "11"), (1, "10"),
            (4, "&(x0"), (5, "&(x0,"), (2, "&()"), (2, "&(,1)"), (4, "&(1,)"), (1, "&"), (1, "&1"), (2, "|("),
            (4, "|(1)1"), (3, "&(1"),
            (3, "&(1 ,1)"), (4, "&(1, 1)"), (0, "(1)"), (0, ")"), (0, ","), (1, "!"), (1, "!)"), (0, "2"), (0, "X0"),
            (1, "x\u0660"),
            (4, "&(1))"), (3, "!x0!"), (0, "in"), (1, "1\n"), (0, "\n1"), (1, "x 0"), (3, "!!!"),
        ):
            self.refused(at, text)

    def test_eight_and_nine_deep(self):
        for deep in range(1, 13):
            for opening, closing in (("!", ""), ("&(", ")"), ("|(", ")"), ("|(1,", ")"), ("&(x0,", ",0)")):
                for leaf in ("x0", "1", "!1", "&(1)"):
                    text = opening * (deep - 1) + leaf + closing * (deep - 1)
                    at = self.check(text)
                    self.assertIs(at is None, deep + (len(leaf) > 2 or leaf[0] == "!") <= 8, text)
                    self.check(text[:-1])
                    # A gate may stand on the eighth level, but no part of it.
                    for end in ("", "!", "&", "&(", "|(", "|(1", "|(x", "|((", "|(!", "!x", "&x", "z"):
                        self.check(opening * (deep - 1) + end)
        self.refused(8, "!" * 8)
        self.refused(8, "!" * 8 + "x0")
        self.refused(8, "!" * 100)
        self.refused(7, "!" * 7)
        self.refused(9, "!" * 7 + "&(" + "1)")
        self.refused(9, "!" * 7 + "&(")
        self.refused(8, "!" * 7 + "&1")
        self.refused(16, "&(" * 8 + "x0" + ")" * 8)
        self.refused(16, "&(" * 8 + "?")
        self.refused(16, "&(" * 8)
        self.assertEqual(self.check("&(" * 7 + "x0" + ")" * 7), None)

    def test_240_and_more_leaves(self):
        for count in (1, 239, 240, 241, 242, 300):
            for leaf in ("1", "0", "x3", "!1"):
                text = "&(" + ",".join([leaf] * count) + ")"
                self.assertIs(self.check(text) is None, count <= 240)
                self.check(text[:-1])
                self.check(text + "1")
        full = "|(" + "1," * 240
        leaves = ("1", "x", "x0", "0", "!!x0", "&(1", "&1", "&(!x0")
        for end in ("", *leaves, "!", "!!", "&", "&(", ")", "z", "!z", "|(|("):
            self.check(full + end)
            self.check(full[:-1] + end)
            self.check(full[:-2] + end)
        self.refused(len(full), full + "x0)")
        self.refused(len(full) + 1, full + "!x0)")
        self.refused(len(full) + 2, full + "&(1))")
        self.refused(len(full) + 6, full + "!" * 6 + "1)")
        self.refused(len(full) + 7, full + "!" * 8 + "1)")
        self.refused(len(full), full)
        self.refused(len(full) - 1, full[:-1])
        rows = "|(" + ",".join(["&(" + ",".join(["x1"] * 12) + ")"] * 20) + ")"
        self.assertEqual(self.check(rows), None)
        self.refused(len(rows) - 1, rows[:-2] + ",1))")

    def test_a_node_of_each_kind_at_each_place(self):
        tree = ("or", (("and", (IN, ("not", ("in", 2)))), ONE, ("not", ("or", (ZERO,)))))
        for path, _ in nodes_of(tree):
            for node in (("in", 1), ONE, ZERO, ("not", IN), ("and", (ONE,)), ("or", (IN, ZERO))):
                changed = with_node(tree, path, node)
                self.assertEqual(write_tree(changed), defined_text(changed))
                self.assertEqual(read_tree(defined_text(changed)), changed)


class InterfaceTest(unittest.TestCase):
    def test_all_is_defined_in_this_file(self):
        for call in (write_sheet, read_sheet, write_tree, read_tree):
            self.assertEqual(call.__module__, texts.__name__)


if __name__ == "__main__":
    unittest.main()
