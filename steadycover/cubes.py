"""Points and cubes: strings with one sign for each input."""

from steadycover.errors import InvalidCube, InvalidPoint, LimitExceeded

MOST_INPUTS = 4
SIZES = (1, 2, 3, 4)
POINT_SIGNS = "01"
CUBE_SIGNS = "-01"


def is_whole(thing):
    """True if the thing is an integer, which True and False are not."""
    return isinstance(thing, int) and not isinstance(thing, bool)


def is_size(n):
    """True if n can be a number of inputs: an integer from 1 to 4."""
    return is_whole(n) and 1 <= n <= MOST_INPUTS


def has_only(text, signs):
    """True if each sign of the text is one of signs."""
    return all([sign in signs for sign in text])


def is_point(thing, n):
    """True if the thing is a point of n inputs."""
    return isinstance(thing, str) and len(thing) == n and has_only(thing, POINT_SIGNS)


def is_cube(thing, n):
    """True if the thing is a cube of n inputs."""
    return isinstance(thing, str) and len(thing) == n and has_only(thing, CUBE_SIGNS)


def check_point(point):
    """Raise InvalidPoint(0) if point is not a point of 1 to 4 inputs."""
    if not any([is_point(point, n) for n in SIZES]):
        raise InvalidPoint(0)


def check_cube(cube):
    """Raise InvalidCube(0) if cube is not a cube of 1 to 4 inputs."""
    if not isinstance(cube, str) or not is_size(len(cube)) or not is_cube(cube, len(cube)):
        raise InvalidCube(0)


def check_cubes(c, d):
    """Raise InvalidCube if c is not a cube or d is not one of the same size."""
    check_cube(c)
    if not is_cube(d, len(c)):
        raise InvalidCube(1)


def holds(c, d):
    """True if each point of cube d is a point of cube c."""
    check_cubes(c, d)
    return all([a in ("-", b) for a, b in zip(c, d)])


def distance(c, d):
    """The number of inputs where one of the two cubes has "0" and the other "1"."""
    check_cubes(c, d)
    return len([a for a, b in zip(c, d) if "-" not in (a, b) and a != b])


def meet(c, d):
    """The cube of the common points of c and d, or None if they have none."""
    return _known_to_both(c, d) if distance(c, d) == 0 else None


def consensus(c, d):
    """The cube across the one input where c and d are opposite, or None if there is not just one."""
    return _known_to_both(c, d) if distance(c, d) == 1 else None


def _known_to_both(c, d):
    # At distance 0 no input is opposite and this is the meet; at distance 1 the
    # one opposite input becomes "-" and this is the consensus.
    return "".join([_known_sign(a, b) for a, b in zip(c, d)])


def _known_sign(a, b):
    if a == "-":
        return b
    return a if b in ("-", a) else "-"


def span(c, d):
    """The cube that holds c and d and that every other cube that holds both holds."""
    check_cubes(c, d)
    return "".join([a if a == b else "-" for a, b in zip(c, d)])


def points_of(cube):
    """The points of the cube, ascending."""
    check_cube(cube)
    return _strings([POINT_SIGNS if sign == "-" else sign for sign in cube])


def literals(cube):
    """The number of the cube's signs "0" and "1"."""
    check_cube(cube)
    return len(cube) - cube.count("-")


def all_cubes(n):
    """All cubes of n inputs, ascending."""
    if not is_size(n):
        raise LimitExceeded(MOST_INPUTS)
    return _strings([CUBE_SIGNS] * n)


def _strings(choices):
    # The signs of each choice stand in ascending order, so the strings do, too.
    strings = [""]
    for signs in choices:
        strings = [string + sign for string in strings for sign in signs]
    return strings


def largest(cubes):
    """Those of the cubes, all of one size, that no other of them holds, ascending and each once."""
    kept = []
    # A cube that holds another has fewer literals, so it comes first.
    for cube in sorted(cubes, key=literals):
        if not any([holds(other, cube) for other in kept]):
            kept.append(cube)
    return sorted(kept)
