"""Demands with covers, and trees, written as texts and read again."""

from steadycover.changes import is_plain_of
from steadycover.covers import MOST_PRODUCTS, check_cover
from steadycover.cubes import MOST_INPUTS, is_cube
from steadycover.errors import InvalidTable, InvalidText
from steadycover.growth import MOST_CHANGES, Demand
from steadycover.tables import Table
from steadycover.trees import GATES, MOST_DEEP, MOST_LEAVES, check_tree, parts_of

SIGNS = {"one": "1", "zero": "0", "not": "!", "and": "&", "or": "|"}
LEAVES = {"1": ("one",), "0": ("zero",)}
WORDS = {"&": "and", "|": "or"}


def write_sheet(demand, cover=None):
    """The text of the demand, with the cover unless it is None."""
    if cover is not None:
        check_cover(cover, demand.table.n)
    lines = [f"table {demand.table.text}"]
    lines.extend([f"change {start} {end}" for start, end in demand.changes])
    if cover is not None:
        lines.append("cover")
        lines.extend([f"product {product}" for product in cover])
    return "".join([f"{line}\n" for line in lines])


def read_sheet(text):
    """The demand and the cover, or None, that the text tells."""
    if not isinstance(text, str):
        raise InvalidText(0)
    # What stands behind the last newline is a line that does not end with one.
    pieces = text.split("\n")
    *lines, rest = pieces
    if not lines:
        raise InvalidText(1)
    table = _read_table(lines[0])
    count = lines.index("cover") if "cover" in lines else len(lines)
    changes = [_read_change(table, lines[at], at) for at in range(1, count)]
    cover = [_read_product(table, lines[at], at, count) for at in range(count + 1, len(lines))]
    if rest:
        raise InvalidText(len(lines) + 1)
    return (Demand(table, changes), cover if count < len(lines) else None)


def _read_table(line):
    words = line.split(" ")
    if len(words) != 2 or words[0] != "table":
        raise InvalidText(1)
    try:
        return Table(words[1])
    except InvalidTable:
        raise InvalidText(1) from None


def _read_change(table, line, at):
    # The table's line stands before the changes, so the one at 9 is the ninth.
    words = line.split(" ")
    if words[0] != "change" or not is_plain_of(table, tuple(words[1:])) or at > MOST_CHANGES:
        raise InvalidText(at + 1)
    return tuple(words[1:])


def _read_product(table, line, at, before):
    words = line.split(" ")
    if len(words) != 2 or words[0] != "product" or at > before + MOST_PRODUCTS or not is_cube(words[1], table.n):
        raise InvalidText(at + 1)
    return words[1]


def write_tree(tree):
    """The text of the tree."""
    check_tree(tree, MOST_INPUTS)
    return _text_of(tree)


def _text_of(tree):
    if tree[0] == "in":
        return f"x{tree[1]}"
    inner = ",".join([_text_of(part) for part in parts_of(tree)])
    sign = SIGNS[tree[0]]
    return f"{sign}({inner})" if tree[0] in GATES else sign + inner


def read_tree(text):
    """The tree that the text tells."""
    if not isinstance(text, str):
        raise InvalidText(-1)
    reader = Reader(text)
    tree = reader.node(1)
    if reader.at < len(text):
        raise InvalidText(reader.at)
    return tree


class Reader:
    """Reads the text of a tree from left to right; each character that cannot stand where it stands is refused."""

    def __init__(self, text):
        self.text = text
        self.at = 0
        self.leaves = 0

    def taken(self, signs):
        """The next character, which has to be one of these signs."""
        if self.at >= len(self.text) or self.text[self.at] not in signs:
            raise InvalidText(self.at)
        sign = self.text[self.at]
        self.at = self.at + 1
        return sign

    def node(self, level):
        """The tree that begins here, on this level of the whole tree."""
        if level > MOST_DEEP:
            raise InvalidText(self.at)
        sign = self.taken("01x!&|" if self.leaves < MOST_LEAVES else "!&|")
        if sign == "!":
            return ("not", self.node(level + 1))
        if sign in WORDS:
            return (WORDS[sign], self.parts(level + 1))
        self.leaves = self.leaves + 1
        return ("in", int(self.taken("0123"))) if sign == "x" else LEAVES[sign]

    def parts(self, level):
        """The parts of a gate, with the brackets around them and the commas between them."""
        self.taken("(")
        parts = [self.node(level)]
        while self.taken(",)") == ",":
            parts.append(self.node(level))
        return tuple(parts)
