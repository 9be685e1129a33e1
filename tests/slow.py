"""Trees told the slow way, straight from the document, to hold the program against.

A tree is here a tuple of its sign and its kids, which are such tuples.
"""

from itertools import product

BOOKS = (
    [("a", 0)],
    [("a", 0), ("g", 1), ("f", 2)],
    [("f", 2), ("a", 0), ("b", 0)],
    [("g", 1), ("f", 2), ("a", 0), ("h", 1), ("b", 0), ("k", 2)],
)


def grown(signs, size):
    """All trees of just so many signs, in no told order."""
    trees = []
    for sign, (_, kids) in enumerate(signs):
        for sizes in product(range(1, size), repeat=kids):
            if sum(sizes) == size - 1:
                choices = [grown(signs, many) for many in sizes]
                trees.extend((sign,) + chosen for chosen in product(*choices))
    return trees


def grown_to(signs, size):
    """All trees of at most so many signs."""
    return [tree for many in range(1, size + 1) for tree in grown(signs, many)]


def row(tree):
    told = (tree[0],)
    for kid in tree[1:]:
        told = told + row(kid)
    return told


def height(tree):
    return 1 + max([height(kid) for kid in tree[1:]], default=0)


def ahead(one, other):
    if one == other:
        return 0
    if len(row(one)) != len(row(other)):
        return -1 if len(row(one)) < len(row(other)) else 1
    if one[0] != other[0]:
        return -1 if one[0] < other[0] else 1
    for kid, other_kid in zip(one[1:], other[1:]):
        if kid != other_kid:
            return ahead(kid, other_kid)


def places(tree):
    told = [()]
    for number, kid in enumerate(tree[1:]):
        told.extend((number,) + place for place in places(kid))
    return sorted(told)


def at(tree, place):
    for number in place:
        tree = tree[1 + number]
    return tree


def put(tree, place, other):
    if place == ():
        return other
    kids = list(tree[1:])
    kids[place[0]] = put(kids[place[0]], place[1:], other)
    return (tree[0],) + tuple(kids)
