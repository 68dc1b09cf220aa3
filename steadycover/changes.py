"""Changes of the inputs, and how the value of a table turns in them."""

from steadycover.cubes import SIZES, holds, is_point, points_of, span
from steadycover.errors import InvalidChange
from steadycover.tables import least_with

# What a plain change is called, by the signs of its start and its end.
PLAIN_NATURES = {"00": "low", "11": "high", "01": "rise", "10": "fall"}


def is_change(thing, n):
    """True if the thing is a change of n inputs."""
    if not isinstance(thing, tuple) or len(thing) != 2:
        return False
    start, end = thing
    return is_point(start, n) and is_point(end, n) and start != end


def check_change(change, n):
    """Raise InvalidChange(-1) if change is not a change of n inputs."""
    if not is_change(change, n):
        raise InvalidChange(-1)


def check_change_of_any_size(change):
    """Raise InvalidChange(-1) if change is not a change of 1 to 4 inputs."""
    if not any([is_change(change, n) for n in SIZES]):
        raise InvalidChange(-1)


def change_cube(change):
    """The cube of the points that the inputs can show during the change."""
    check_change_of_any_size(change)
    start, end = change
    return span(start, end)


def nature(table, change):
    """What the table's value does during the change, with what shows it if that is not plain."""
    check_change(change, table.n)
    start, end = change
    free = least_with(table, span(start, end), "-")
    if free is not None:
        return ("free", free)
    points = _uneven_way(table, start, end)
    if points is not None:
        return ("uneven", points)
    return (PLAIN_NATURES[table.value(start) + table.value(end)],)


def _uneven_way(table, start, end):
    # The change's cube has no free point here, so the two cases of the document are all.
    before, after = table.value(start), table.value(end)
    cube = span(start, end)
    if before == after:
        other = least_with(table, cube, "1" if after == "0" else "0")
        return None if other is None else [start, other, end]
    for early in [point for point in points_of(cube) if table.value(point) == after]:
        back = least_with(table, span(early, end), before)
        if back is not None:
            return [start, early, back, end]
    return None


def is_plain(table, change):
    """True if the change is low, high, a rise or a fall."""
    return nature(table, change)[0] not in ("free", "uneven")


def is_plain_of(table, thing):
    """True if the thing is a plain change of the table."""
    return is_change(thing, table.n) and is_plain(table, thing)


def check_plain(table, change):
    """Raise InvalidChange(-1) if change is not a plain change of the table."""
    if not is_plain_of(table, change):
        raise InvalidChange(-1)


def is_uneven(table, change, points):
    """True if points shows that the change is uneven."""
    check_change(change, table.n)
    return _is_way(table, change, points) and _turns(table, points) > _turns(table, change)


def _is_way(table, change, points):
    start, end = change
    if not isinstance(points, (list, tuple)) or len(points) < 2:
        return False
    if not all([is_point(point, table.n) and table.value(point) != "-" for point in points]):
        return False
    if points[0] != start or points[-1] != end:
        return False
    return all([a != b and holds(span(a, end), b) for a, b in zip(points, points[1:])])


def _turns(table, points):
    signs = [table.value(point) for point in points]
    return len([a for a, b in zip(signs, signs[1:]) if a != b])


def turning(table, change):
    """The turning end of the change if it is a rise or a fall, else None."""
    return on_end(table, change) if is_plain(table, change) else None


def on_end(table, change):
    """The turning end of a change that is known to be plain, or None."""
    ons = [point for point in change if table.value(point) == "1"]
    return ons[0] if len(ons) == 1 else None


def plain_changes(table):
    """All plain changes of the table, ascending."""
    points = points_of("-" * table.n)
    changes = [(start, end) for start in points for end in points if start != end]
    return [change for change in changes if is_plain(table, change)]
