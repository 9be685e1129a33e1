"""Patterns, numbers of trees, costs and paths told the slow way, straight from the document.

A tree is here a tuple of its sign and its kids, as in slow.py, a plain reader as in
slow_readers.py. A plain pattern is such a tree, in which None stands for any tree.
"""

from functools import cmp_to_key

import slow
import slow_readers


def in_order(trees):
    return sorted(trees, key=cmp_to_key(slow.ahead))


def read_pattern(signs, numbers):
    """The plain pattern that numbers write, and the numbers behind it; nothing where they write none."""
    if not numbers:
        return None
    if numbers[0] == -1:
        return (None, numbers[1:])
    if not 0 <= numbers[0] < len(signs):
        return None
    told, behind = (numbers[0],), numbers[1:]
    for _ in range(signs[numbers[0]][1]):
        kid = read_pattern(signs, behind)
        if kid is None:
            return None
        told, behind = told + (kid[0],), kid[1]
    return (told, behind)


def is_pattern(signs, numbers):
    told = read_pattern(signs, numbers)
    return told is not None and told[1] == () and len(numbers) <= 6


def fits(plain, tree):
    """Whether a tree fits a plain pattern."""
    if plain is None:
        return True
    return plain[0] == tree[0] and all(fits(kid, part) for kid, part in zip(plain[1:], tree[1:]))


def holds(plain, tree):
    return fits(plain, tree) or any(holds(plain, kid) for kid in tree[1:])


def likes(signs, plain, tree):
    return slow_readers.state(slow_readers.leads(signs, plain), tree) in plain[2]


def liked(signs, plain, trees):
    """Those of the trees that a plain reader likes."""
    told = slow_readers.leads(signs, plain)
    return [tree for tree in trees if slow_readers.state(told, tree) in plain[2]]


def cost(weights, tree):
    return sum(weights[sign] for sign in slow.row(tree))


def paths(tree):
    """The paths of a tree: tuples of a sign and the number of a kid, of a sign alone at the end."""
    if len(tree) == 1:
        return [((tree[0],),)]
    return [((tree[0], number),) + path for number, kid in enumerate(tree[1:]) for path in paths(kid)]


def is_path(signs, plain, path):
    """Whether a path is one of some liked tree: found from its leaf."""
    told = slow_readers.leads(signs, plain)
    met = slow_readers.met(told)
    here = [told[(path[-1][0], ())]]
    for sign, number in path[-2::-1]:
        here = [mood for (top, kids), mood in told.items()
                if top == sign and kids[number] in here and all(kid in met for kid in kids)]
    return any(mood in plain[2] for mood in here)


def by_paths(signs, plain, trees):
    """Those of the trees all of whose paths are paths of liked trees."""
    known = {}
    told = []
    for tree in trees:
        for path in paths(tree):
            if path not in known:
                known[path] = is_path(signs, plain, path)
        if all(known[path] for path in paths(tree)):
            told.append(tree)
    return told
