"""The desk: a table with named changes and a cover, and a history of what was done."""

from steadycover.changes import check_plain
from steadycover.covers import MOST_PRODUCTS, check_cover, covered, why
from steadycover.cubes import has_only, is_cube, is_point
from steadycover.errors import InvalidCube, InvalidName, InvalidPoint, LimitExceeded, NothingLeft, UnknownName
from steadycover.growth import MOST_CHANGES, Demand
from steadycover.least import is_cover_for, least_covers

LETTERS = "abcdefghijklmnopqrstuvwxyz"
MOST_LETTERS = 8


def _is_name(thing):
    return isinstance(thing, str) and 1 <= len(thing) <= MOST_LETTERS and has_only(thing, LETTERS)


def _put(desk, name, change):
    desk[name] = change


def _drop(desk, name):
    desk.drop(name)


def _set_cover(desk, value):
    desk.cover = value


def _add(desk, cube):
    desk += cube


def _remove(desk, cube):
    desk -= cube


def _mend(desk):
    desk.mend()


def _undo(desk):
    desk.undo()


def _redo(desk):
    desk.redo()


def _attempt(desk, deeds):
    desk.attempt(deeds)


# What each kind of deed in an attempt does to the desk.
DEEDS = {
    "put": _put, "drop": _drop, "cover": _set_cover, "add": _add, "remove": _remove,
    "mend": _mend, "undo": _undo, "redo": _redo, "attempt": _attempt,
}


class Desk:
    """A table, changes of it that have names, a cover or None, and the history of these."""

    def __init__(self, table):
        self.table = table
        # A deed puts a new dict and a new tuple here and leaves the old ones as
        # they are, so that the history can keep them.
        self.changes = {}
        self.products = None
        self.past = []
        self.undone = []

    def _hold(self, changes, products):
        """What each deed ends with."""
        self.past.append((self.changes, self.products))
        self.undone.clear()
        self.changes = changes
        self.products = products

    def __setitem__(self, name, change):
        if not _is_name(name):
            raise InvalidName(name)
        check_plain(self.table, change)
        if name not in self.changes and len(self.changes) >= MOST_CHANGES:
            raise LimitExceeded(MOST_CHANGES)
        self._hold({**self.changes, name: change}, self.products)

    def __getitem__(self, name):
        self._check_known(name)
        return self.changes[name]

    def _check_known(self, name):
        if name not in self.changes:
            raise UnknownName(name)

    def __iter__(self):
        raise TypeError("a desk is not iterated over")

    def __contains__(self, name):
        return name in self.changes

    def __len__(self):
        return len(self.changes)

    def drop(self, name):
        """Takes the name and its change away."""
        self._check_known(name)
        left = {known: self.changes[known] for known in self.changes if known != name}
        self._hold(left, self.products)

    def names(self):
        """The names, ascending."""
        return sorted(self.changes)

    def rows(self):
        """Each name with its change, ascending."""
        for name in self.names():
            yield (name, self.changes[name])

    def demand(self):
        """The demand with the table and the changes in the order of their names."""
        return Demand(self.table, [self.changes[name] for name in self.names()])

    @property
    def cover(self):
        """The list of the products, or None."""
        return None if self.products is None else list(self.products)

    @cover.setter
    def cover(self, value):
        if value is not None:
            check_cover(value, self.table.n)
        self._hold(self.changes, None if value is None else tuple(value))

    def __iadd__(self, cube):
        products = self._products_beside(cube)
        if len(products) >= MOST_PRODUCTS:
            raise LimitExceeded(MOST_PRODUCTS)
        self._hold(self.changes, (*products, cube))
        return self

    def _products_beside(self, cube):
        if not is_cube(cube, self.table.n):
            raise InvalidCube(0)
        return () if self.products is None else self.products

    def __isub__(self, cube):
        products = self._products_beside(cube)
        if cube not in products:
            raise NothingLeft("product")
        at = products.index(cube)
        self._hold(self.changes, (*products[:at], *products[at + 1:]))
        return self

    def mend(self):
        """Makes the first of the least covers the cover."""
        covers = least_covers(self.demand())
        if not covers:
            raise NothingLeft("cover")
        self._hold(self.changes, tuple(covers[0]))

    def __call__(self, point):
        if not is_point(point, self.table.n):
            raise InvalidPoint(0)
        return "1" if covered(point, self._known_products()) else "0"

    def _known_products(self):
        if self.products is None:
            raise NothingLeft("cover")
        return self.products

    def faults(self):
        """The names whose changes are not calm in the cover, ascending, each with the reason."""
        products = self._known_products()
        reasons = [(name, why(self.changes[name], products)) for name in self.names()]
        return [(name, reason) for name, reason in reasons if reason is not None]

    def is_sound(self):
        """True if the cover is a cover for the demand."""
        return self.products is not None and is_cover_for(self.demand(), self.products)

    def undo(self):
        """Takes back the last deed."""
        if not self.past:
            raise NothingLeft("undo")
        self.undone.append((self.changes, self.products))
        self.changes, self.products = self.past.pop()

    def redo(self):
        """Does the deed again that was taken back last."""
        if not self.undone:
            raise NothingLeft("redo")
        self.past.append((self.changes, self.products))
        self.changes, self.products = self.undone.pop()

    def twin(self):
        """A new desk that holds the same, with an empty history."""
        twin = Desk(self.table)
        twin.changes = self.changes
        twin.products = self.products
        return twin

    def attempt(self, deeds):
        """Does all of the deeds, or none if one of them raises an error."""
        trial = self.twin()
        trial.past = list(self.past)
        trial.undone = list(self.undone)
        for kind, *things in deeds:
            deed = DEEDS[kind]
            deed(trial, *things)
        self.changes, self.products = trial.changes, trial.products
        self.past, self.undone = trial.past, trial.undone
