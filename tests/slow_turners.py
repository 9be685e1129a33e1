"""Turners told the slow way, straight from the document.

A tree is here a tuple of its sign and its kids, as in slow.py. A plain turner is the list of
the lists of its made rows. A made row is read as such a tree, in which ("part", state, kid)
stands for a tuple.
"""

import slow
import slow_readers


def read(goals, things):
    """The tree that things of a made row write, and the things behind it."""
    if isinstance(things[0], tuple):
        return ("part",) + things[0], things[1:]
    told, behind = (things[0],), things[1:]
    for _ in range(goals[things[0]][1]):
        kid, behind = read(goals, behind)
        told = told + (kid,)
    return told, behind


def trees(goals, rows):
    """A dict: for each state and sign the made row as a tree."""
    found = {}
    for state, made in enumerate(rows):
        for sign, row in enumerate(made):
            tree, behind = read(goals, row)
            assert behind == ()
            found[(state, sign)] = tree
    return found


def put(node, part):
    """A made row as a tree, with what `part` tells of them in the place of its tuples."""
    if node[0] == "part":
        return part(node[1], node[2])
    return (node[0],) + tuple(put(kid, part) for kid in node[1:])


def turned(made, tree, state=0):
    """The tree that comes of a tree turned by a state; all that is built on the way is small."""
    return put(made[(state, tree[0])], lambda other, kid: turned(made, tree[1 + kid], other))


def led(made, states, lead, sign, kids):
    """The tuple of that to which a sign leads turned by each state, from such tuples of its kids."""
    def of(node):
        if node[0] == "part":
            return kids[node[2]][node[1]]
        return lead(node[0], tuple(of(kid) for kid in node[1:]))

    return tuple(of(made[(state, sign)]) for state in range(states))


def state_of(made, states, lead, tree):
    """To what a tree leads by each state."""
    return led(made, states, lead, tree[0], tuple(state_of(made, states, lead, kid) for kid in tree[1:]))


def best(signs, lead):
    """A dict: for each state to which `lead` leads the tree that goes ahead of all others that come to it.

    A tree is here as in slow_readers.best: its size, its sign and its kids.
    """
    found = {}
    while True:
        news = {}
        for sign, (_, kids) in enumerate(signs):
            for chosen in slow.product(list(found), repeat=kids):
                result = lead(sign, chosen)
                tree = (1 + sum(found[kid][0] for kid in chosen), sign) + tuple(found[kid] for kid in chosen)
                news[result] = min(tree, news.get(result, tree))
        if news == found:
            return found
        found = news


def mood_lead(goals, plain):
    told = slow_readers.leads(goals, plain)
    return lambda sign, kids: told[(sign, kids)]


def behind(signs, middle, goals, one, other):
    """The plain turner that does first the one and then the other one, word by word as point 24 tells it."""
    first, second = trees(middle, one), trees(goals, other)

    def through(node, state):
        if node[0] == "part":
            return ("part", (node[1], state), node[2])
        return put(second[(state, node[0])], lambda inner, kid: through(node[1 + kid], inner))

    numbered = [(0, 0)]
    rows = []
    while len(rows) < len(numbered):
        here, there = numbered[len(rows)]
        made = [through(first[(here, sign)], there) for sign in range(len(signs))]
        for tree in made:
            for pair in pairs(tree):
                if pair not in numbered:
                    numbered.append(pair)
        rows.append(made)
    return [[written(tree, numbered) for tree in made] for made in rows]


def pairs(node):
    """The pairs of states in a made row as a tree, from the left."""
    if node[0] == "part":
        return [node[1]]
    return [pair for kid in node[1:] for pair in pairs(kid)]


def written(node, numbered):
    if node[0] == "part":
        return ((numbered.index(node[1]), node[2]),)
    told = (node[0],)
    for kid in node[1:]:
        told = told + written(kid, numbered)
    return told
