"""Trees for the tests, what is no tree, and what the points on trees say, written out."""

from functools import cache
from itertools import permutations, product
from random import Random

from tests.definitions import word_of
from tests.samples import deep_dict, deep_list, deep_tuple, no_strings, point_strings

IN, ONE, ZERO = ("in", 0), ("one",), ("zero",)
PULSE = ("and", (("in", 0), ("not", ("in", 0))))


def chosen_tree(random, n, deep):
    """A tree of n inputs, at most so deep."""
    gates = ("not", "and", "or", "and", "or") if deep > 1 else ()
    kind = random.choice(("in", "in", "in", "one", "zero", *gates))
    if kind == "in":
        return ("in", random.randrange(n))
    if kind in ("one", "zero"):
        return (kind,)
    if kind == "not":
        return ("not", chosen_tree(random, n, deep - 1))
    return (kind, tuple(chosen_tree(random, n, deep - 1) for _ in range(random.choice((1, 2, 2, 3)))))


@cache
def chosen_trees(n):
    """Trees of n inputs, from leaves to trees that are eight deep."""
    random = Random(n)
    trees = [("in", i) for i in range(n)] + [ONE, ZERO, ("not", ("in", n - 1)), ("not", ("not", ONE)), PULSE]
    pairs = [some for k in (1, 2) for some in product([IN, ONE, ZERO, PULSE], repeat=k)]
    trees += [(gate, some) for gate in ("and", "or") for some in pairs]
    trees += [chosen_tree(random, n, 2 + at % 4) for at in range(150)]
    trees += [chosen_tree(random, n, 5 + at % 4) for at in range(150)]
    return tuple(tree for tree in dict.fromkeys(trees) if leaves_of(tree) <= 240)


def parts_of(tree):
    return (tree[1],) if tree[0] == "not" else tree[1] if tree[0] in ("and", "or") else ()


def leaves_of(tree):
    return sum(map(leaves_of, parts_of(tree))) or 1


def depth_of(tree):
    return 1 + max(map(depth_of, parts_of(tree)), default=0)


def nodes_of(tree, path=()):
    """All nodes with their paths, a node before its parts and the parts from left to right."""
    found = [(path, tree)]
    for at, part in enumerate(parts_of(tree)):
        found += nodes_of(part, (*path, at))
    return found


def with_node(tree, path, node):
    """The tree with another node at the path."""
    if not path:
        return node
    parts = list(parts_of(tree))
    parts[path[0]] = with_node(parts[path[0]], path[1:], node)
    return ("not", parts[0]) if tree[0] == "not" else (tree[0], tuple(parts))


def value_at(point, tree):
    """What [75] says."""
    if tree[0] == "in":
        return point[tree[1]] == "1"
    values = [value_at(point, part) for part in parts_of(tree)]
    return {"one": lambda: True, "zero": lambda: False, "not": lambda: not values[0],
            "and": lambda: all(values), "or": lambda: any(values)}[tree[0]]()


def defined_sign(cube, tree):
    """What [76] says."""
    if tree[0] == "in":
        return cube[tree[1]]
    if tree[0] in ("one", "zero"):
        return "1" if tree[0] == "one" else "0"
    signs = [defined_sign(cube, part) for part in parts_of(tree)]
    if tree[0] == "not":
        return {"0": "1", "1": "0", "-": "-"}[signs[0]]
    if tree[0] == "and":
        return "0" if "0" in signs else "1" if set(signs) == {"1"} else "-"
    return "1" if "1" in signs else "0" if set(signs) == {"0"} else "-"


def leaf_word(change, leaf):
    if leaf[0] != "in":
        return "1" if leaf[0] == "one" else "0"
    return word_of([point[leaf[1]] == "1" for point in change])


def opposite(word):
    return "".join("0" if sign == "1" else "1" for sign in word)


def gate_word(tree, words, weave):
    """The word of the gate whose parts have these words and turn as the weave says."""
    places = [0] * len(words)
    moments = []
    for at in [None, *weave]:
        if at is not None:
            places[at] += 1
        shown = [word[place] == "1" for word, place in zip(words, places)]
        moments.append(all(shown) if tree[0] == "and" else any(shown))
    return word_of(moments)


def defined_word(change, tree, play):
    """What [77] says of a play that fits."""
    if tree[0] == "not":
        return opposite(defined_word(change, tree[1], play))
    if not parts_of(tree):
        return leaf_word(change, tree)
    weave, plays = play
    return gate_word(tree, [defined_word(change, part, p) for part, p in zip(parts_of(tree), plays)], weave)


def plays_of(change, tree, most=400):
    """All plays of the tree with their words, or None if there are more than so many."""
    if tree[0] == "not":
        below = plays_of(change, tree[1], most)
        return None if below is None else [(play, opposite(word)) for play, word in below]
    if not parts_of(tree):
        return [((), leaf_word(change, tree))]
    below = [plays_of(change, part, most) for part in parts_of(tree)]
    if None in below or len(below) > 3:
        return None
    found = []
    for some in product(*below):
        plays, words = tuple(play for play, _ in some), [word for _, word in some]
        turned = [at for at, word in enumerate(words) for _ in word[1:]]
        if len(turned) > 6:
            return None
        found += [((weave, plays), gate_word(tree, words, weave)) for weave in sorted(set(permutations(turned)))]
        if len(found) > most:
            return None
    return found


def no_nodes(n):
    """Things that are no trees of n inputs, wrong at their root."""
    wrong = [
        ("in",), ("in", -1), ("in", n), ("in", 4), ("in", 10 ** 400), ("in", "0"), ("in", None), ("in", 0.0),
        ("in", True),
        ("in", False), ("in", (0,)), ("in", 0, 0), ("in", ("in", 0)), ["in", 0], "in", ("In", 0), ("in ", 0),
        (b"in", 0),
        ("one", 0), ("one", ()), ["one"], "one", ("zero", "zero"), ("zero", ("one",)), {"zero"}, ("two",), (1,), (0,),
        ("",),
        ("not",), ("not", ONE, ONE), ["not", ONE], {"not": ONE}, ("nand", (ONE, ONE)), ("xor", (ONE, ONE)),
        ("and",), ("or",), ("and", ()), ("or", ()), ("and", [ONE, ONE]), ("or", [ONE]), ("and", {ONE}),
        ("or", {ONE: ONE}),
        ("and", ONE, ONE), ("or", (ONE,), (ONE,)), ("and", None), ("or", 1), ("and", "or"), ["and", (ONE,)],
        ("AND", (ONE,)),
        ("or", iter((ONE,))), ("and", 0), ((),), (("in", 0),), (("in", 0), ("in", 0)), ("in", 0, 1), (None, None),
        ("x0",),
        "x0", "1", "&(x0)", (("and",), (ONE,)), ([], ONE), ({}, ONE), (["one"],), ("one", "one"),
    ]
    return [*wrong, *no_strings(), deep_list(40), deep_tuple(40), deep_dict(40)]


def wide(count, gate="or", leaf=IN):
    return (gate, (leaf,) * count)


def tall(deep, leaf=IN, gates=("not", "and", "or")):
    """A tree that is so deep, with one part at each gate."""
    tree = leaf
    for at in range(deep - 1):
        gate = gates[at % len(gates)]
        tree = (gate, tree) if gate == "not" else (gate, (tree,))
    return tree


def changes_of(n):
    return [(start, end) for start in point_strings(n) for end in point_strings(n) if start != end]
