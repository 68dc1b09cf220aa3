"""Which changes of a demand fit together, and which other changes its covers are calm for."""

from steadycover.changes import change_cube, check_plain, on_end, plain_changes
from steadycover.covers import calm
from steadycover.cubes import all_cubes, holds, largest, points_of
from steadycover.growth import Demand, barred, broken, grown, is_good, needed
from steadycover.least import check_not_barred, grown_cover, least_choices, least_size, size_of
from steadycover.tables import least_with


def conflicts(demand):
    """The sets of changes that conflict and fit without any one of their numbers, short ones first."""
    fits = _judged(demand)
    return [numbers for numbers in fits if not fits[numbers]]


def greatest(demand):
    """The sets of changes that fit and conflict with any other number added, long ones first."""
    fits = _judged(demand)
    fitting = [numbers for numbers in fits if fits[numbers]]
    within = {shorter: True for numbers in fitting for shorter in _one_left_out(numbers)}
    outer = [numbers for numbers in fitting if numbers not in within]
    return [numbers for count in range(len(demand), -1, -1) for numbers in outer if len(numbers) == count]


def _judged(demand):
    """Whether a set fits, for the sets that fit without any one of their numbers, short ones first."""
    fits = {}
    for numbers in _all_sets(len(demand)):
        # A set that is not judged here holds a smaller one that conflicts.
        if all([fits.get(shorter, False) for shorter in _one_left_out(numbers)]):
            fits[numbers] = barred(demand.only(numbers)) is None
    return fits


def _one_left_out(numbers):
    return [(*numbers[:at], *numbers[at + 1:]) for at in range(len(numbers))]


def _all_sets(count):
    sets = [()]
    level = [()]
    while level:
        level = [(*numbers, at) for numbers in level for at in range(count) if at > max(numbers, default=-1)]
        sets.extend(level)
    return sets


def surely(demand, change):
    """None if each cover for the demand is calm for the change, else one that is not."""
    check_plain(demand.table, change)
    return _other_cover(demand.table, change, grown_cover(demand), _lasts(demand))


def all_sure(demand):
    """The plain changes for which each cover for the demand is calm, ascending."""
    cover = grown_cover(demand)
    lasts = _lasts(demand)
    changes = plain_changes(demand.table)
    return [change for change in changes if _other_cover(demand.table, change, cover, lasts) is None]


def _lasts(demand):
    # A good cube that holds an on point also holds the last cube of its growth.
    # So if a good cube breaks a change, one of these last cubes does.
    return {point: grown(demand, point)[0] for point in demand.table.ons()}


def _other_cover(table, change, cover, lasts):
    """A cover that is not calm for the change, made of the grown cover and one of the last cubes, or None."""
    if not calm(change, cover):
        return cover
    end = on_end(table, change)
    if end is None:
        return None
    for point in points_of(change_cube(change)):
        if point in lasts and not holds(lasts[point], end):
            return [*cover, lasts[point]]
    return None


def welcome(demand):
    """The plain changes for which some cover for the demand is calm, ascending."""
    if barred(demand) is not None:
        return []
    cover = grown_cover(demand)
    return [change for change in plain_changes(demand.table) if _is_welcome(demand, cover, change)]


def _is_welcome(demand, cover, change):
    # The demand may have as many changes as it can hold already, so the change
    # makes a demand of its own, and the cubes grow until they break no change of both.
    alone = Demand(demand.table, [change])
    lasts = [_grown_in_both(demand, alone, cube) for cube in [*cover, *needed(alone)]]
    return all([least_with(demand.table, last, "0") is None for last in lasts])


def _grown_in_both(demand, alone, cube):
    while broken(demand, cube) or broken(alone, cube):
        cube, _ = grown(demand, cube)
        cube, _ = grown(alone, cube)
    return cube


def implies(demand, other):
    """None if each cover for the demand is one for the other demand, else one that is not."""
    if barred(demand) is not None:
        return None
    for change in other.changes:
        cover = surely(demand, change)
        if cover is not None:
            return cover
    return None


def price(demand, change):
    """How many products and literals more the least covers have that are calm for the change also, or None."""
    check_plain(demand.table, change)
    check_not_barred(demand)
    products, literals = least_size(demand)
    if not _is_welcome(demand, grown_cover(demand), change):
        return None
    alone = Demand(demand.table, [change])
    cubes = all_cubes(demand.table.n)
    primes = largest([cube for cube in cubes if is_good(demand, cube) and is_good(alone, cube)])
    more = size_of(least_choices(primes, [*needed(demand), *needed(alone)])[0])
    return (more[0] - products, more[1] - literals)
