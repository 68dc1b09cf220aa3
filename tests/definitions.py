"""What the points on covers, growth and demands say, written out for the tests."""

from itertools import combinations

from steadycover.growth import Demand
from steadycover.tables import Table
from tests.samples import (
    EIGHTS, SIXTEENS, all_changes, all_texts, contained, cube_strings, inside, kind_of, plain_of, shown, size,
    turned_inputs, turning_of,
)

EXAMPLE = ("01010100", (("011", "000"), ("101", "000")))
# A cube of 000 and 010 breaks several of these, so it grows in several ways.
BRANCHING = ("1111111111111110", (
    ("0000", "1111"), ("0001", "1111"), ("0010", "1111"), ("0100", "1111"), ("1111", "1000"), ("0011", "1111"),
))
# Many good primes, few products in the least covers, and covers of as many products with more literals.
CROWDED = (
    ("11100-110--1-011", (("1011", "0011"), ("0110", "0010"))),
    ("0111-100---010-1", (("1101", "1100"),)),
    ("0-11-110101101--", ()),
    ("111-110-01-01011", (("1100", "1110"), ("1011", "1001"))),
    ("01110110100111--", (("0000", "0001"),)),
)


def defined_wires(change, cover):
    return [(j, i) for j in range(len(cover)) for i in turned_inputs(change) if cover[j][i] != "-"]


def walk(change, cover, order):
    """The words of the OR and of each product, told wire by wire by the words of [20] and [21]."""
    start, end = change
    shows = {wire: start[wire[1]] for wire in defined_wires(change, cover)}
    ones = [[] for _ in cover]
    moments = []
    for turned in [None, *order]:
        if turned is not None:
            shows[turned] = end[turned[1]]
        for j, cube in enumerate(cover):
            literals = [i for i in range(len(cube)) if cube[i] != "-"]
            ones[j].append(all(cube[i] == shows.get((j, i), start[i]) for i in literals))
        moments.append(any(one[-1] for one in ones))
    return word_of(moments), [word_of(one) for one in ones]


def word_of(moments):
    word = ""
    for one in moments:
        sign = "1" if one else "0"
        if word[-1:] != sign:
            word += sign
    return word


def too_long(word):
    return (len(word) > 1 and word[0] == word[-1]) or len(word) > 2


def defined_why(change, cover):
    """What [23] says."""
    start, end = change
    a = any(start in contained(cube) for cube in cover)
    b = any(end in contained(cube) for cube in cover)
    if a and b:
        return None if any(set(inside(change)) <= contained(cube) for cube in cover) else ("alone",)
    for j, cube in enumerate(cover):
        meets = bool(contained(cube) & set(inside(change)))
        if meets and not (b and end in contained(cube)) and not (a and start in contained(cube)):
            return ("meets", j)
    return None


def chosen_changes(text):
    """Lists of 0 to 8 plain changes of the table."""
    plain = plain_of(text)
    moved = [change for change in plain if kind_of(text, change) in ("rise", "fall")]
    lists = [(), tuple(plain[:8]), tuple(plain[::-1][:8]), tuple(moved[:8]), tuple(moved[1::3][:8])]
    lists += [tuple(moved[1::5][:2]), tuple(plain[::4][:3]), tuple(moved[::7][:5][::-1]), tuple(plain[:1]) * 2]
    return lists


def small_rows():
    """Texts of tables with changes: all tables of one and two inputs with a choice of changes, some of three."""
    rows = []
    for text in [*all_texts(1), *all_texts(2)[::2]]:
        rows += [(text, changes) for changes in chosen_changes(text)]
        rows += [(text, (change,)) for change in plain_of(text)[::3]]
    for text in (*EIGHTS, "11110111", "01111111", "10-11101"):
        rows += [(text, changes) for changes in chosen_changes(text)]
        moved = [change for change in plain_of(text) if kind_of(text, change) in ("rise", "fall")]
        rows += [(text, two) for two in list(combinations(moved, 2))[::29]]
    return list(dict.fromkeys([EXAMPLE, ("01010100", EXAMPLE[1][:1]), ("01010100", EXAMPLE[1][1:]), *rows]))


def large_rows():
    rows = [(text, changes) for text in SIXTEENS[::2] for changes in chosen_changes(text)[1:5]]
    return list(dict.fromkeys([BRANCHING, *rows]))


def demand_of(row):
    text, changes = row
    return Demand(Table(text), changes)


def cubes_of(row):
    """All cubes of a small table, a choice of those of a large one."""
    n = size(row[0])
    return cube_strings(n)[::1 if n < 4 else 4]


def defined_broken(row, cube):
    text, changes = row
    return [
        at for at, change in enumerate(changes)
        if kind_of(text, change) in ("rise", "fall")
        and contained(cube) & set(inside(change))
        and turning_of(text, change) not in contained(cube)
    ]


def offs_in(text, cube):
    return [point for point in sorted(contained(cube)) if shown(text)[point] == "0"]


def is_defined_good(row, cube):
    return not defined_broken(row, cube) and not offs_in(row[0], cube)


def maximal(cubes):
    """The cubes that no other of them holds, ascending and each once."""
    return sorted({c for c in cubes if not any(contained(c) < contained(other) for other in cubes)})


def spanned(c, d):
    return "".join(a if a == b else "-" for a, b in zip(c, d))


def behind(row, cube, at):
    return spanned(cube, turning_of(row[0], row[1][at]))


def growths(row, cube):
    """All growths of the cube, with any broken change at each step."""
    numbers = defined_broken(row, cube)
    if not numbers:
        return [(cube, [])]
    found = []
    for at in numbers:
        then = behind(row, cube, at)
        found += [(last, [(at, then), *steps]) for last, steps in growths(row, then)]
    return found


def defined_grown(row, cube):
    steps = []
    while defined_broken(row, cube):
        at = defined_broken(row, cube)[0]
        cube = behind(row, cube, at)
        steps.append((at, cube))
    return (cube, steps)


def defined_needed(row):
    """What [48] says."""
    text, changes = row
    candidates = [point for point, sign in shown(text).items() if sign == "1"]
    for change in changes:
        kind, (start, end) = kind_of(text, change), change
        if kind == "high":
            cubes = cube_strings(size(text))
            candidates.append([cube for cube in cubes if sorted(contained(cube)) == inside(change)][0])
        if kind in ("rise", "fall"):
            anchor = end if kind == "rise" else start
            spans = [spanned(anchor, point) for point in inside(change)]
            candidates += [c for c in spans if all(shown(text)[point] == "1" for point in contained(c))]
    return maximal(candidates)


def defined_barred(row):
    for cube in defined_needed(row):
        last, steps = defined_grown(row, cube)
        if offs_in(row[0], last):
            return (cube, steps, offs_in(row[0], last)[0])
    return None


def is_defined_cover(row, cover):
    """What [50] says of a list of cubes."""
    text, changes = row
    for point, sign in shown(text).items():
        if sign != "-" and (sign == "1") != any(point in contained(cube) for cube in cover):
            return False
    return all(defined_why(change, cover) is None for change in changes)


def defined_primes(row):
    return maximal([cube for cube in cube_strings(size(row[0])) if is_defined_good(row, cube)])


def many_primes(demand, count):
    """The good primes of the demand, and an off point as often as makes up this count."""
    primes = defined_primes((demand.table.text, demand.changes))
    return sorted([*primes, *demand.table.offs()[:1] * (count - len(primes))])


def unplain_of(text):
    return [change for change in all_changes(size(text)) if kind_of(text, change) in ("free", "uneven")]


SMALL = small_rows()
ROWS = [*SMALL, *large_rows()]
