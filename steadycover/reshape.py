"""Trees in another shape with the same values, and which of two trees is calmer."""

from steadycover.cubes import MOST_INPUTS, is_size, points_of
from steadycover.errors import LimitExceeded, NothingLeft
from steadycover.trees import GATES, MOST_DEEP, MOST_LEAVES, check_tree, parts_of, size_of_tree, stays_calm

# What a node becomes when a not over it moves down to its parts.
NEGATED = {"and": "or", "or": "and", "one": "zero", "zero": "one"}


def shared(tree, path):
    """The tree with the or of ands at the path replaced by an and that has their first part once."""
    check_tree(tree, MOST_INPUTS)
    node = _node_at(tree, path)
    if node is None or not _can_share(node):
        raise NothingLeft("shared")
    seconds = [part[1][1] for part in node[1]]
    return _with_node(tree, path, ("and", (_firsts(node)[0], ("or", tuple(seconds)))))


def _can_share(node):
    if node[0] != "or" or not all([_is_and_of_two(part) for part in node[1]]):
        return False
    firsts = _firsts(node)
    return all([first == firsts[0] for first in firsts])


def _firsts(node):
    return [part[1][0] for part in node[1]]


def _is_and_of_two(node):
    return node[0] == "and" and len(node[1]) == 2


def spread(tree, path):
    """The tree with the and of a part and an or at the path replaced by an or of ands with that part."""
    check_tree(tree, MOST_INPUTS)
    node = _node_at(tree, path)
    if node is None or not _is_and_of_two(node) or node[1][1][0] != "or":
        raise NothingLeft("spread")
    first, (_, seconds) = node[1]
    result = _with_node(tree, path, ("or", tuple([("and", (first, second)) for second in seconds])))
    leaves, deep = size_of_tree(result)
    if leaves > MOST_LEAVES:
        raise LimitExceeded(MOST_LEAVES)
    if deep > MOST_DEEP:
        raise LimitExceeded(MOST_DEEP)
    return result


def _node_at(tree, path):
    """The node at the path, or None if there is none."""
    node = tree
    for at in path:
        parts = parts_of(node)
        if at >= len(parts):
            return None
        node = parts[at]
    return node


def _with_node(tree, path, node):
    """The tree with this node at the path instead of the one that is there."""
    if not path:
        return node
    at = path[0]
    parts = list(parts_of(tree))
    parts[at] = _with_node(parts[at], path[1:], node)
    return _with_parts(tree, parts)


def _with_parts(node, parts):
    if node[0] in GATES:
        return (node[0], tuple(parts))
    return ("not", parts[0]) if parts else node


def turned_in(tree):
    """The tree with its nots moved down to the leaves that show inputs."""
    check_tree(tree, MOST_INPUTS)
    return _turned_in(tree)


def _turned_in(tree):
    if tree[0] == "not":
        return _negated(tree[1])
    return _with_parts(tree, [_turned_in(part) for part in parts_of(tree)])


def _negated(tree):
    """The opposite of the tree, with its nots at the leaves."""
    if tree[0] == "not":
        return _turned_in(tree[1])
    if tree[0] == "in":
        return ("not", tree)
    word = NEGATED[tree[0]]
    return (word, tuple([_negated(part) for part in parts_of(tree)])) if tree[0] in GATES else (word,)


def flattened(tree):
    """The tree without gates that have one part, and without gates in a gate of their own kind."""
    check_tree(tree, MOST_INPUTS)
    return _flattened(tree)


def _flattened(tree):
    parts = [_flattened(part) for part in parts_of(tree)]
    if tree[0] not in GATES:
        return _with_parts(tree, parts)
    kept = []
    for part in parts:
        kept.extend(part[1] if part[0] == tree[0] else [part])
    return kept[0] if len(kept) == 1 else (tree[0], tuple(kept))


def calmer(n, one, other):
    """None if one is calm wherever other is, else the least change for which other alone is calm."""
    if not is_size(n):
        raise LimitExceeded(MOST_INPUTS)
    check_tree(one, n)
    check_tree(other, n)
    points = points_of("-" * n)
    for change in [(start, end) for start in points for end in points if start != end]:
        if stays_calm(change, other) and not stays_calm(change, one):
            return change
    return None
