"""Covers for a demand, and the least of them."""

from steadycover.covers import calm, check_cover, is_cover, misfit
from steadycover.cubes import holds, largest, literals
from steadycover.errors import InvalidCover, LimitExceeded, NothingLeft
from steadycover.growth import barred, good_primes, grown, needed

MOST_PRIMES = 14


def is_cover_for(demand, thing):
    """True if the thing is a cover without misfit that is calm for each change of the demand."""
    if not is_cover(thing, demand.table.n) or misfit(demand.table, thing) is not None:
        return False
    return all([calm(change, thing) for change in demand.changes])


def _check_cover_for(demand, cover):
    check_cover(cover, demand.table.n)
    if not is_cover_for(demand, cover):
        raise InvalidCover(-2)


def check_not_barred(demand):
    """Raise NothingLeft("cover") if there is no cover for the demand."""
    if barred(demand) is not None:
        raise NothingLeft("cover")


def grown_cover(demand):
    """The last cubes of the growths of the needed cubes, without those that another one holds."""
    check_not_barred(demand)
    return largest([grown(demand, cube)[0] for cube in needed(demand)])


def needless(demand, cover):
    """The indexes of the products without which, each alone left out, the rest is a cover for the demand."""
    _check_cover_for(demand, cover)
    cubes = needed(demand)
    return [at for at in range(len(cover)) if _hold_all([*cover[:at], *cover[at + 1:]], cubes)]


def _hold_all(products, cubes):
    # The products are known to be good, so they are a cover for the demand
    # exactly if they hold all of its needed cubes.
    return all([any([holds(product, cube) for product in products]) for cube in cubes])


def pruned(demand, cover):
    """The products that remain if each, from the first on, is left out where the rest is enough."""
    _check_cover_for(demand, cover)
    cubes = needed(demand)
    kept = []
    for at, product in enumerate(cover):
        if not _hold_all([*kept, *cover[at + 1:]], cubes):
            kept.append(product)
    return kept


def widened(demand, cover):
    """For each product the first good prime that holds it."""
    _check_cover_for(demand, cover)
    primes = good_primes(demand)
    return [_holders(primes, product)[0] for product in cover]


def _holders(cubes, held):
    return [cube for cube in cubes if holds(cube, held)]


def least_covers(demand):
    """All covers for the demand with the fewest products and, among these, the fewest literals."""
    if barred(demand) is not None:
        return []
    return least_choices(good_primes(demand), needed(demand))


def least_choices(primes, cubes):
    """As least_covers, for a demand that is not barred and has these good primes and needed cubes."""
    if len(primes) > MOST_PRIMES:
        raise LimitExceeded(MOST_PRIMES)
    choices = _fewest(primes, cubes)
    fewest = min([size_of(choice) for choice in choices])
    return [list(choice) for choice in choices if size_of(choice) == fewest]


def _fewest(primes, cubes):
    # Each choice takes on one prime at a time, always one for its first cube that
    # is not held yet. So every set of primes that holds all cubes is reached along
    # a part of it, and the sets of fewest primes are complete at the same time.
    choices = [()]
    while not _hold_all(choices[0], cubes):
        choices = sorted({longer for choice in choices for longer in _longer(choice, primes, cubes)})
        complete = [choice for choice in choices if _hold_all(choice, cubes)]
        choices = complete if complete else choices
    return choices


def _longer(choice, primes, cubes):
    left = [cube for cube in cubes if not _holders(choice, cube)]
    return [tuple(sorted([*choice, prime])) for prime in _holders(primes, left[0])]


def size_of(cover):
    """The number of the products and the number of all their literals."""
    return (len(cover), sum([literals(product) for product in cover]))


def least_size(demand):
    """The size of the least covers, or None if the demand is barred."""
    covers = least_covers(demand)
    return size_of(covers[0]) if covers else None


def essentials(demand):
    """The good primes that are the only ones to hold some needed cube, ascending."""
    primes = good_primes(demand)
    holders = [_holders(primes, cube) for cube in needed(demand)]
    return [prime for prime in primes if [prime] in holders]
