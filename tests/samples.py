"""What several tests need: the definitions written out, and things of the wrong kind."""

from itertools import product

from steadycover import errors
from steadycover.tables import Table

SIZES = (1, 2, 3, 4)


def point_strings(n):
    return ["".join(signs) for signs in product("01", repeat=n)]


def cube_strings(n):
    return ["".join(signs) for signs in product("-01", repeat=n)]


def contained(cube):
    """The points that the cube contains, by the words of [5]."""
    return {
        point
        for point in point_strings(len(cube))
        if all(sign == "-" or sign == shown for sign, shown in zip(cube, point))
    }


def deep_list(depth):
    thing = []
    for _ in range(depth - 1):
        thing = [thing]
    return thing


def deep_tuple(depth):
    thing = "1"
    for _ in range(depth):
        thing = (thing,)
    return thing


def deep_dict(depth):
    thing = {}
    for _ in range(depth - 1):
        thing = {"1": thing}
    return thing


def no_strings():
    """Things that are not strings, made anew on each call."""
    return [
        0, 1, 10, -1, 2, 4, 10 ** 400, True, False, None, 1.0, float("nan"), 1j,
        b"", b"1", b"01", bytearray(b"01"), memoryview(b"01"), range(2),
        [], ["1"], ["0", "1"], ["01"], (), ("1",), ("0", "1"), ("-", "-", "-"),
        {}, {"0": "1"}, {"1": 0, "0": 1}, set(), {"1"}, {"0", "1"}, frozenset("01"),
        [["0"], ("1", {"-": [1]})], ((("0",),),), {"1": [{"0": ()}]},
        deep_list(40), deep_tuple(40), deep_dict(40),
        iter("01"), (sign for sign in "01"), len, str, object(), ..., NotImplemented, slice(0, 1),
        Table("01"), Table("0110"), Table, errors.CoverError(), errors.InvalidCube(0), errors.InvalidWord(),
    ]


def no_sizes():
    """Things that are not an integer from 1 to 4."""
    others = [thing for thing in no_strings() if isinstance(thing, bool) or not isinstance(thing, int)]
    return [0, 5, -1, -4, 10 ** 400, 2.0, "", "1", "2", "11", "-", [2], (2,), {2: 2}, *others]


# Strings that are no points or cubes of any size: other signs also among good
# ones, and signs that Python takes for digits or blanks.
STRANGE_STRINGS = (
    "", " ", "2", "x", "*", "0 ", " 1", "0\n", "1\n", "\n", "01\n", "0x1", "02", "1_0", "+1", "--2", "0-1 ",
    "\u0661", "0\u0661", "\uff10\uff11", "\u2212", "\u2013\u2013", "0\x00", "\ud800", "O1", "l0", "1010a",
)


# Strings of good signs, but too many for any point or cube.
LONG_STRINGS = ("00000", "11111", "-----", "01-01", "010101", "0" * 16, "-" * 1000)
