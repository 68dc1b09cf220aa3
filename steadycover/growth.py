"""Demands, the cubes that are good for them, and how other cubes grow."""

from steadycover.changes import change_cube, is_plain_of, on_end
from steadycover.cubes import all_cubes, holds, is_cube, is_point, is_whole, largest, meet, points_of, span
from steadycover.errors import InvalidChange, InvalidCube
from steadycover.tables import least_with

MOST_CHANGES = 8


class Demand:
    """A table and plain changes of it, numbered from 0, for which a cover shall be calm."""

    def __init__(self, table, changes=()):
        _check_changes(table, changes)
        self.table = table
        self.changes = tuple(changes)

    def __len__(self):
        return len(self.changes)

    def __getitem__(self, at):
        return self.changes[at]

    def __iter__(self):
        raise TypeError("a demand is not iterated over")

    def __contains__(self, change):
        return change in self.changes

    def __eq__(self, other):
        return isinstance(other, Demand) and self.table == other.table and self.changes == other.changes

    def __add__(self, change):
        return Demand(self.table, [*self.changes, change])

    def only(self, numbers):
        """The demand with the changes of these numbers alone."""
        return Demand(self.table, [self.changes[at] for at in numbers])


def _check_changes(table, changes):
    if not isinstance(changes, (list, tuple)) or len(changes) > MOST_CHANGES:
        raise InvalidChange(-1)
    for at, change in enumerate(changes):
        if not is_plain_of(table, change):
            raise InvalidChange(at)


def _check_cube(demand, cube):
    if not is_cube(cube, demand.table.n):
        raise InvalidCube(1)


def broken(demand, cube):
    """The numbers of the changes that the cube breaks, ascending."""
    _check_cube(demand, cube)
    return [at for at, change in enumerate(demand.changes) if _breaks(demand.table, change, cube)]


def _breaks(table, change, cube):
    end = on_end(table, change)
    return end is not None and meet(cube, change_cube(change)) is not None and not holds(cube, end)


def is_good(demand, cube):
    """True if the cube breaks no change and has no off point."""
    return not broken(demand, cube) and least_with(demand.table, cube, "0") is None


def good_primes(demand):
    """The good cubes that no other good cube holds, ascending."""
    return largest([cube for cube in all_cubes(demand.table.n) if is_good(demand, cube)])


def grown(demand, cube):
    """The last cube of the growth in which each step takes the least number, and its steps."""
    numbers = broken(demand, cube)
    steps = []
    while numbers:
        cube = _behind_step(demand, cube, numbers[0])
        steps.append((numbers[0], cube))
        numbers = broken(demand, cube)
    return (cube, steps)


def _behind_step(demand, cube, at):
    return span(cube, on_end(demand.table, demand.changes[at]))


def is_growth(demand, cube, thing):
    """True if the thing is the last cube of a growth of the cube, with its steps."""
    _check_cube(demand, cube)
    if not isinstance(thing, tuple) or len(thing) != 2:
        return False
    told, steps = thing
    last = _last_of(demand, cube, steps)
    return last is not None and told == last


def _last_of(demand, cube, steps):
    """The cube behind these steps if they are a whole growth of the cube, else None."""
    if not isinstance(steps, (list, tuple)):
        return None
    for step in steps:
        if not _is_step(demand, cube, step):
            return None
        _, cube = step
    return None if broken(demand, cube) else cube


def _is_step(demand, cube, step):
    if not isinstance(step, tuple) or len(step) != 2:
        return False
    at, behind = step
    return is_whole(at) and at in broken(demand, cube) and behind == _behind_step(demand, cube, at)


def needed(demand):
    """The candidates that no other candidate holds, ascending."""
    candidates = demand.table.ons()
    for change in demand.changes:
        candidates.extend(_candidates(demand.table, change))
    return largest(candidates)


def _candidates(table, change):
    cube, end = change_cube(change), on_end(table, change)
    # Of the changes without a turning end, the high ones alone have a cube of on points.
    wanted = [cube] if end is None else [span(end, point) for point in points_of(cube)]
    return [candidate for candidate in wanted if _is_all_on(table, candidate)]


def _is_all_on(table, cube):
    return all([table.value(point) == "1" for point in points_of(cube)])


def barred(demand):
    """None, or the least needed cube that grows onto an off point, its steps and the least such point."""
    for cube in needed(demand):
        last, steps = grown(demand, cube)
        point = least_with(demand.table, last, "0")
        if point is not None:
            return (cube, steps, point)
    return None


def is_bar(demand, thing):
    """True if the thing shows that the demand is barred: a needed cube, its growth and an off point."""
    if not isinstance(thing, tuple) or len(thing) != 3:
        return False
    cube, steps, point = thing
    if cube not in needed(demand) or not is_point(point, demand.table.n):
        return False
    last = _last_of(demand, cube, steps)
    return last is not None and demand.table.value(point) == "0" and holds(last, point)
