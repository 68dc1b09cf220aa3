"""Trees of gates, and how they flicker when each leaf and each gate has a delay of its own."""

from steadycover.changes import check_change_of_any_size
from steadycover.covers import check_cover
from steadycover.cubes import MOST_INPUTS, check_cube, check_point, is_size, is_whole
from steadycover.errors import InvalidPlay, InvalidTree, LimitExceeded
from steadycover.words import Word, exchanged

MOST_LEAVES = 240
MOST_DEEP = 8
GATES = ("and", "or")

# How many items a node has, by its first item.
LENGTHS = {"in": 2, "one": 1, "zero": 1, "not": 2, "and": 2, "or": 2}


def is_tree(thing, n):
    """True if the thing is a tree of n inputs."""
    return _wrong_path(thing, n) is None


def check_tree(tree, n):
    """Raise InvalidTree if tree is not a tree of n inputs."""
    path = _wrong_path(tree, n)
    if path is not None:
        raise InvalidTree(path)


def _wrong_path(tree, n):
    leaves = 0
    left = [((), tree)]
    while left:
        path, node = left.pop()
        if len(path) >= MOST_DEEP or not _has_form_of_node(node, n):
            return path
        parts = parts_of(node)
        if not parts:
            leaves = leaves + 1
        if leaves > MOST_LEAVES:
            return path
        # The first part is taken next, so it stands last.
        below = [((*path, at), part) for at, part in enumerate(parts)]
        left.extend(below[::-1])
    return None


def _has_form_of_node(node, n):
    if not isinstance(node, tuple) or not node or not isinstance(node[0], str):
        return False
    if len(node) != LENGTHS.get(node[0], 0):
        return False
    if node[0] == "in":
        return is_whole(node[1]) and 0 <= node[1] < n
    return node[0] not in GATES or (isinstance(node[1], tuple) and len(node[1]) > 0)


def parts_of(node):
    """The parts of a node as a tuple, empty for a leaf."""
    if node[0] == "not":
        return (node[1],)
    return node[1] if node[0] in GATES else ()


def measure(tree):
    """How many leaves the tree has and how deep it is."""
    check_tree(tree, MOST_INPUTS)
    return size_of_tree(tree)


def size_of_tree(tree):
    """As measure, for what is built like a tree, whatever its size."""
    sizes = [size_of_tree(part) for part in parts_of(tree)]
    if not sizes:
        return (1, 1)
    return (sum([leaves for leaves, _ in sizes]), 1 + max([deep for _, deep in sizes]))


def at_point(point, tree):
    """True if the tree's value at the point is 1."""
    check_point(point)
    check_tree(tree, len(point))
    # All inputs are known at a point, so the sign is the value.
    return _sign(point, tree) == "1"


def settled(cube, tree):
    """The sign that the tree shows if only the inputs are known where the cube has "0" or "1"."""
    check_cube(cube)
    check_tree(tree, len(cube))
    return _sign(cube, tree)


def _sign(cube, tree):
    if tree[0] == "in":
        return cube[tree[1]]
    signs = [_sign(cube, part) for part in parts_of(tree)]
    if not signs:
        return _constant(tree)
    if tree[0] == "not":
        return exchanged(signs[0])
    deciding = _deciding(tree)
    if deciding in signs:
        return deciding
    return "-" if "-" in signs else exchanged(deciding)


def _constant(leaf):
    return "1" if leaf[0] == "one" else "0"


def _deciding(gate):
    """The sign that a gate shows as soon as one of its parts shows it."""
    return "0" if gate[0] == "and" else "1"


def _check(change, tree):
    check_change_of_any_size(change)
    check_tree(tree, len(change[0]))


def is_play(change, tree, thing):
    """True if the thing is a play of the tree during the change."""
    _check(change, tree)
    try:
        _word_of(change, tree, thing, ())
    except InvalidPlay:
        return False
    return True


def word_of_play(change, tree, play):
    """The word that the tree shows in the play."""
    _check(change, tree)
    return _word_of(change, tree, play, ())


def _word_of(change, tree, play, path):
    if tree[0] == "not":
        return exchanged(_word_of(change, tree[1], play, (*path, 0)))
    parts = parts_of(tree)
    if not parts:
        if not isinstance(play, tuple) or len(play) > 0:
            raise InvalidPlay(path)
        return _word_of_leaf(change, tree)
    if not _has_form_of_play(play, len(parts)):
        raise InvalidPlay(path)
    weave, plays = play
    words = [_word_of(change, part, plays[at], (*path, at)) for at, part in enumerate(parts)]
    if not _is_weave(weave, words):
        raise InvalidPlay(path)
    return _woven(tree, words, weave)


def _word_of_leaf(change, leaf):
    if leaf[0] != "in":
        return _constant(leaf)
    start, end = change
    signs = start[leaf[1]] + end[leaf[1]]
    return signs[:1] if signs in ("00", "11") else signs


def _has_form_of_play(play, count):
    if not isinstance(play, tuple) or len(play) != 2:
        return False
    weave, plays = play
    return isinstance(weave, tuple) and isinstance(plays, tuple) and len(plays) == count


def _is_weave(weave, words):
    if not all([is_whole(at) and 0 <= at < len(words) for at in weave]):
        return False
    return all([weave.count(at) == len(word) - 1 for at, word in enumerate(words)])


def _woven(gate, words, weave):
    """The word of the gate if its parts, with these words, turn as the weave says."""
    deciding = _deciding(gate)
    places = [0 for _ in words]
    shown = [word[0] for word in words]
    word = ""
    for at in [None, *weave]:
        if at is not None:
            places[at] = places[at] + 1
            shown[at] = words[at][places[at]]
        sign = deciding if deciding in shown else exchanged(deciding)
        if not word.endswith(sign):
            word = word + sign
    return word


def longest_of(change, tree):
    """The longest word of a play."""
    _check(change, tree)
    return longest_word(change, tree).text


def longest_word(change, tree):
    """As longest_of, a Word, for a change and a tree that are known to be right."""
    if tree[0] == "not":
        return ~longest_word(change, tree[1])
    words = [longest_word(change, part) for part in parts_of(tree)]
    if not words:
        return Word(_word_of_leaf(change, tree))
    whole = words[0]
    for word in words[1:]:
        whole = whole & word if tree[0] == "and" else whole | word
    return whole


def longest_play(change, tree):
    """A play with the longest word."""
    _check(change, tree)
    return _longest_play(change, tree)


def _longest_play(change, tree):
    if tree[0] == "not":
        return _longest_play(change, tree[1])
    parts = parts_of(tree)
    if not parts:
        return ()
    words = [longest_word(change, part).text for part in parts]
    return (_longest_weave(words, _deciding(tree)), tuple([_longest_play(change, part) for part in parts]))


def _longest_weave(words, deciding):
    # The parts that begin with the deciding sign leave it first, and those that
    # end with it take it last. Between, each part that takes it and leaves it
    # again does so while no other part shows it, so that the gate turns as well.
    early = [at for at, word in enumerate(words) if len(word) > 1 and word[0] == deciding]
    late = [at for at, word in enumerate(words) if len(word) > 1 and word[-1] == deciding]
    between = []
    for at, word in enumerate(words):
        between.extend([at] * (len(word) - 1 - early.count(at) - late.count(at)))
    return (*early, *between, *late)


def calm_tree(change, tree):
    """True if no play has a word that is longer than needed."""
    _check(change, tree)
    return stays_calm(change, tree)


def stays_calm(change, tree):
    """As calm_tree, for a change and a tree that are known to be right."""
    # Neighbours in a word differ, so one that begins and ends with one sign and
    # is longer than needed has three signs or more, as the others have.
    return len(longest_word(change, tree)) <= 2


def flicker_play(change, tree):
    """None if the tree is calm for the change, else a play whose word is longer than needed."""
    return None if calm_tree(change, tree) else _longest_play(change, tree)


def tree_of(n, cover):
    """The tree of the cover: an or of the trees of its products."""
    if not is_size(n):
        raise LimitExceeded(MOST_INPUTS)
    check_cover(cover, n)
    return _gate("or", [_gate("and", _literals_of(product), ("one",)) for product in cover], ("zero",))


def _literals_of(product):
    signed = [(i, sign) for i, sign in enumerate(product) if sign != "-"]
    return [("in", i) if sign == "1" else ("not", ("in", i)) for i, sign in signed]


def _gate(word, parts, empty):
    if not parts:
        return empty
    return parts[0] if len(parts) == 1 else (word, tuple(parts))
