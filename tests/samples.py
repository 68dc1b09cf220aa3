"""What several tests need: the definitions written out, and things of the wrong kind."""

from functools import cache
from itertools import permutations, product

from steadycover import errors
from steadycover.desk import Desk
from steadycover.growth import Demand
from steadycover.tables import Table
from steadycover.words import Word

SIZES = (1, 2, 3, 4)
LENGTHS = {1: 2, 2: 4, 3: 8, 4: 16}
EIGHTS = (
    "00000000", "11111111", "--------", "01010011", "01010100", "11011001", "01101001", "10010110",
    "0-1-01-1", "1---0---", "-0-1-0-1", "00011110", "-------0", "1-------", "01111110", "1000-001",
)
SIXTEENS = (
    "0000000000000000", "1111111111111111", "----------------", "0110100110010110", "1000000000000001",
    "0-1-0-1-10-01-01", "1101100101010100", "-1111111--11-110", "0000000000000001", "0111111111111110",
    "1100110000110011", "---0---1---0---1", "0101001101010011", "1-0-01101--01001", "0--0-11--11-0--0",
)


def point_strings(n):
    return ["".join(signs) for signs in product("01", repeat=n)]


def cube_strings(n):
    return ["".join(signs) for signs in product("-01", repeat=n)]


@cache
def contained(cube):
    """The points that the cube contains, by the words of [5]."""
    return frozenset(
        point
        for point in point_strings(len(cube))
        if all(sign == "-" or sign == shown for sign, shown in zip(cube, point))
    )


def all_texts(n):
    return ["".join(signs) for signs in product("-01", repeat=LENGTHS[n])]


def size(text):
    return len(text).bit_length() - 1


@cache
def shown(text):
    """The sign of each point, where input 0 is the highest digit of the index."""
    signs = {}
    for point in point_strings(size(text)):
        index = 0
        for digit in point:
            index = 2 * index + (1 if digit == "1" else 0)
        signs[point] = text[index]
    return signs


def all_changes(n):
    return [(start, end) for start in point_strings(n) for end in point_strings(n) if start != end]


def turned_inputs(change):
    start, end = change
    return [i for i in range(len(start)) if start[i] != end[i]]


@cache
def inside(change):
    """The points that the inputs can show during the change: each input shows its first or its last value."""
    start, end = change
    return [
        point for point in point_strings(len(start))
        if all(point[i] in (start[i], end[i]) for i in range(len(start)))
    ]


@cache
def single_step_ways(change):
    """All ways from start to end in which the inputs turn one after the other."""
    start, end = change
    ways = []
    for turned in permutations(turned_inputs(change)):
        way = [start]
        for i in turned:
            way.append(way[-1][:i] + end[i] + way[-1][i + 1:])
        ways.append(way)
    return ways


def turns(text, points):
    signs = [shown(text)[point] for point in points]
    return sum(a != b for a, b in zip(signs, signs[1:]))


@cache
def kind_of(text, change):
    """The first word of the nature of [13], told by the single-step ways of the change."""
    signs = shown(text)
    start, end = change
    if any(signs[point] == "-" for point in inside(change)):
        return "free"
    if any(turns(text, way) > (signs[start] != signs[end]) for way in single_step_ways(change)):
        return "uneven"
    return {"00": "low", "11": "high", "01": "rise", "10": "fall"}[signs[start] + signs[end]]


def plain_of(text):
    return [change for change in all_changes(size(text)) if kind_of(text, change) not in ("free", "uneven")]


def turning_of(text, change):
    return {"rise": change[1], "fall": change[0]}.get(kind_of(text, change))


def deep_list(depth):
    thing = []
    for _ in range(depth - 1):
        thing = [thing]
    return thing


def deep_tuple(depth):
    thing = "1"
    for _ in range(depth):
        thing = (thing,)
    return thing


def deep_dict(depth):
    thing = {}
    for _ in range(depth - 1):
        thing = {"1": thing}
    return thing


def no_strings():
    """Things that are not strings, made anew on each call."""
    return [
        0, 1, 10, -1, 2, 4, 10 ** 400, True, False, None, 1.0, float("nan"), 1j,
        b"", b"1", b"01", bytearray(b"01"), memoryview(b"01"), range(2),
        [], ["1"], ["0", "1"], ["01"], (), ("1",), ("0", "1"), ("-", "-", "-"),
        {}, {"0": "1"}, {"1": 0, "0": 1}, set(), {"1"}, {"0", "1"}, frozenset("01"),
        [["0"], ("1", {"-": [1]})], ((("0",),),), {"1": [{"0": ()}]},
        deep_list(40), deep_tuple(40), deep_dict(40),
        iter("01"), (sign for sign in "01"), len, str, object(), ..., NotImplemented, slice(0, 1),
        Table("01"), Table("0110"), Table, Demand(Table("01")), Demand(Table("0111"), [("00", "01")]), Demand,
        Word("0"), Word("1"), Word("01"), Word("101"), Word, Desk(Table("01")), Desk,
        errors.CoverError(), errors.InvalidCube(0), errors.InvalidWord(),
    ]


def no_sizes():
    """Things that are not an integer from 1 to 4."""
    others = [thing for thing in no_strings() if isinstance(thing, bool) or not isinstance(thing, int)]
    return [0, 5, -1, -4, 10 ** 400, 2.0, "", "1", "2", "11", "-", [2], (2,), {2: 2}, *others]


# Strings that are no points or cubes of any size: other signs also among good
# ones, and signs that Python takes for digits or blanks.
STRANGE_STRINGS = (
    "", " ", "2", "x", "*", "0 ", " 1", "0\n", "1\n", "\n", "01\n", "0x1", "02", "1_0", "+1", "--2", "0-1 ",
    "\u0661", "0\u0661", "\uff10\uff11", "\u2212", "\u2013\u2013", "0\x00", "\ud800", "O1", "l0", "1010a",
)


# Strings of good signs, but too many for any point or cube.
LONG_STRINGS = ("00000", "11111", "-----", "01-01", "010101", "0" * 16, "-" * 1000)


def no_points(n):
    """Things that are not a point of n inputs."""
    others = [point for m in SIZES if m != n for point in point_strings(m)]
    return [*others, *[cube for cube in cube_strings(n) if "-" in cube], *STRANGE_STRINGS, *LONG_STRINGS, *no_strings()]


def no_cubes(n):
    """Things that are not a cube of n inputs."""
    others = [cube for m in SIZES if m != n for cube in cube_strings(m)[::5]]
    return [*others, *STRANGE_STRINGS, *LONG_STRINGS, *no_strings()]


def no_changes(n):
    """Things that are not a change of n inputs."""
    low, high = "0" * n, "1" * n
    wrong_points = no_points(n)
    return [
        *[thing for thing in no_strings() if n > 1 or thing != ("0", "1")], "", low, high, low + high, low + " " + high,
        [low, high], {low: high}, {low, high}, frozenset((low, high)), iter((low, high)), [(low, high)], ((low, high),),
        (low,), (low, high, low), (low, high, None), (low, low), (high, high), ((low, high), (high, low)),
        *[(low, thing) for thing in wrong_points], *[(thing, high) for thing in wrong_points],
        *[(thing, thing) for thing in wrong_points],
        *[change for m in SIZES if m != n for change in all_changes(m)[::7]],
    ]


def no_covers(n):
    """Things that are not a cover of n inputs, each with the position of what is wrong in it."""
    kinds = [
        thing for thing in [*no_strings(), "", "0" * n, "-" * n, STRANGE_STRINGS[1], {"0" * n: 1}, {"1" * n}]
        if not isinstance(thing, (list, tuple))
    ]
    good = (cube_strings(n) * 20)[:41]
    wrong = [(thing, -1) for thing in kinds]
    wrong += [(good, -1), (tuple(good), -1), ([None] * 41, -1), (("x",) * 1000, -1), (iter(good[:3]), -1)]
    for at, thing in enumerate(no_cubes(n)):
        before = at % 4
        wrong.append(([*good[:before], thing, *good[:at % 3]], before))
        wrong.append(((*good[:before], thing, None, *good[:at % 3]), before))
    wrong += [([*good[:39], None], 39), ((*good[:20], "x", *good[:19]), 20), ([None, *good[:39]], 0)]
    return wrong
