"""Covers: an OR of products, and how its value turns during a change."""

from steadycover.changes import change_cube, check_change_of_any_size
from steadycover.cubes import check_point, holds, is_cube, is_whole, meet, points_of
from steadycover.errors import InvalidCover, InvalidOrder, LimitExceeded

MOST_PRODUCTS = 40
MOST_WIRES = 6

# The longest word of a product that meets the change's cube, by its values at
# start and end. One that holds both ends has no wire that turns; one that holds
# neither shows a pulse if the wires that end as it needs them turn first.
PRODUCT_WORDS = {"00": "010", "01": "01", "10": "10", "11": "1"}

# When the wires of a product turn in an order with the longest word: what is 1
# at start falls before the others show their pulses, what is 1 at end rises last.
STAGES = {"10": 0, "0": 1, "010": 1, "01": 2}


def is_cover(thing, n):
    """True if the thing is a cover of n inputs."""
    return _wrong_product(thing, n) is None


def check_cover(cover, n):
    """Raise InvalidCover if cover is not a cover of n inputs."""
    at = _wrong_product(cover, n)
    if at is not None:
        raise InvalidCover(at)


def _wrong_product(cover, n):
    if not isinstance(cover, (list, tuple)) or len(cover) > MOST_PRODUCTS:
        return -1
    for at, product in enumerate(cover):
        if not is_cube(product, n):
            return at
    return None


def covered(point, cover):
    """True if a product of the cover contains the point."""
    check_point(point)
    check_cover(cover, len(point))
    return any([holds(product, point) for product in cover])


def misfit(table, cover):
    """The least point where the cover's value is not the table's, or None."""
    check_cover(cover, table.n)
    for point in points_of("-" * table.n):
        if table.value(point) == ("0" if covered(point, cover) else "1"):
            return point
    return None


def wires(change, cover):
    """The wires (product, input) that turn in the change, ascending."""
    _check(change, cover)
    start, end = change
    turned = [i for i in range(len(start)) if start[i] != end[i]]
    return [(j, i) for j, product in enumerate(cover) for i in turned if product[i] != "-"]


def _check(change, cover):
    check_change_of_any_size(change)
    check_cover(cover, len(change[0]))


def is_order(change, cover, thing):
    """True if the thing is an order of the wires that turn in the change."""
    return _wrong_place(thing, wires(change, cover)) is None


def _wrong_place(order, due):
    if not isinstance(order, (list, tuple)):
        return -1
    left = {wire: True for wire in due}
    for at, item in enumerate(order):
        if not _has_form_of_wire(item) or item not in left:
            return at
        del left[item]
    return len(order) if left else None


def _has_form_of_wire(item):
    return isinstance(item, tuple) and len(item) == 2 and all([is_whole(number) for number in item])


def played(change, cover, order):
    """The word of the order."""
    at = _wrong_place(order, wires(change, cover))
    if at is not None:
        raise InvalidOrder(at)
    start, end = change
    seen = [start for _ in cover]
    shown = [holds(product, start) for product in cover]
    word = _sign(shown)
    for j, i in order:
        seen[j] = seen[j][:i] + end[i] + seen[j][i + 1:]
        shown[j] = holds(cover[j], seen[j])
        if not word.endswith(_sign(shown)):
            word = word + _sign(shown)
    return word


def _sign(shown):
    return "1" if any(shown) else "0"


def product_words(change, cover):
    """The longest word of each product, in their order."""
    _check(change, cover)
    return [_product_word(change, product) for product in cover]


def _product_word(change, product):
    if meet(product, change_cube(change)) is None:
        return "0"
    return PRODUCT_WORDS["".join(["1" if holds(product, point) else "0" for point in change])]


def longest(change, cover):
    """The longest word of an order."""
    words = product_words(change, cover)
    if "1" in words:
        return "1"
    first = "1" if "10" in words else ""
    last = "1" if "01" in words else ""
    return first + "0" + "10" * words.count("010") + last


def longest_order(change, cover):
    """An order that has the longest word."""
    words = product_words(change, cover)
    start, _ = change

    def rank(wire):
        j, i = wire
        # At equal stages the wires that end as their product needs them turn first.
        return (STAGES[words[j]], j, cover[j][i] == start[i], i)

    return sorted(wires(change, cover), key=rank)


def flicker(change, cover):
    """None if the cover is calm for the change, else an order whose word is longer than needed."""
    return None if calm(change, cover) else longest_order(change, cover)


def calm(change, cover):
    """True if no order has a word that is longer than needed."""
    # Neighbours in a word differ, so a word that begins and ends with one sign
    # and is longer than needed has three signs or more, as the others have.
    return len(longest(change, cover)) <= 2


def why(change, cover):
    """Why the cover is not calm for the change: ("meets", j) or ("alone",); None if it is calm."""
    words = product_words(change, cover)
    if any([word.startswith("1") for word in words]) and any([word.endswith("1") for word in words]):
        return None if "1" in words else ("alone",)
    # Start or end is not covered here. So a product that meets the change's cube
    # and holds no covered end holds neither end, and its longest word is a pulse.
    return ("meets", words.index("010")) if "010" in words else None


def orders(change, cover):
    """Every order once, as a list of wires, ascending."""
    due = wires(change, cover)
    if len(due) > MOST_WIRES:
        raise LimitExceeded(MOST_WIRES)
    yield from _all_orders(due)


def _all_orders(due):
    begun = [[]]
    for _ in due:
        begun = [[*order, wire] for order in begun for wire in due if wire not in order]
    return begun
