"""Tables: which points are on, off or free."""

from steadycover.cubes import CUBE_SIGNS, all_cubes, has_only, is_point, is_size, largest, points_of
from steadycover.errors import InvalidPoint, InvalidTable

LENGTHS = (2, 4, 8, 16)


class Table:
    """A sign "0", "1" or "-" for each point; text lists them in the order of the points."""

    def __init__(self, text):
        if not isinstance(text, str):
            raise InvalidTable("kind")
        if len(text) not in LENGTHS:
            raise InvalidTable("length")
        if not has_only(text, CUBE_SIGNS):
            raise InvalidTable("sign")
        self.text = text
        self.n = LENGTHS.index(len(text)) + 1

    @classmethod
    def told(cls, n, *, ons, frees=()):
        """The table of n inputs with these on points and free points; all others are off."""
        if not is_size(n):
            raise InvalidTable("inputs")
        _check_points(ons, n)
        _check_points(frees, n)
        if any([point in ons for point in frees]):
            raise InvalidTable("both")
        signs = [_told_sign(point, ons, frees) for point in points_of("-" * n)]
        return cls("".join(signs))

    def value(self, point):
        """The sign of the point."""
        if not is_point(point, self.n):
            raise InvalidPoint(0)
        return self.text[int(point, 2)]

    def ons(self):
        """The on points, ascending."""
        return self._points_with("1")

    def offs(self):
        """The off points, ascending."""
        return self._points_with("0")

    def frees(self):
        """The free points, ascending."""
        return self._points_with("-")

    def _points_with(self, sign):
        points = points_of("-" * self.n)
        return [point for point, shown in zip(points, self.text) if shown == sign]

    def primes(self):
        """The cubes without off points that no other such cube holds, ascending."""
        return largest([cube for cube in all_cubes(self.n) if least_with(self, cube, "0") is None])

    def refines(self, other):
        """True if each point that is on or off in other has the same sign here."""
        if self.n != other.n:
            return False
        return all([theirs in ("-", mine) for mine, theirs in zip(self.text, other.text)])

    def __eq__(self, other):
        return isinstance(other, Table) and self.text == other.text


def least_with(table, cube, sign):
    """The least point of the cube that has this sign in the table, or None."""
    for point in points_of(cube):
        if table.value(point) == sign:
            return point
    return None


def _check_points(points, n):
    for at, point in enumerate(points):
        if not is_point(point, n):
            raise InvalidPoint(at)


def _told_sign(point, ons, frees):
    if point in ons:
        return "1"
    return "-" if point in frees else "0"
