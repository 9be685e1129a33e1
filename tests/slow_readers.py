"""Readers and guessers told the slow way, straight from the document.

A plain reader is a tuple of the number of its moods, the list of its tables and the list of
the liked moods. A tree is here a tuple of its sign and its kids, as in slow.py.
"""

from itertools import product


def leads(signs, plain):
    """A dict: for each sign and moods of its kids the mood of the sign's table."""
    moods, tables, _ = plain
    found = {}
    for sign, (_, kids) in enumerate(signs):
        rows = list(product(range(moods), repeat=kids))
        assert len(rows) == len(tables[sign])
        for chosen, mood in zip(rows, tables[sign]):
            found[(sign, chosen)] = mood
    return found


def pair_leads(signs, one, other):
    """A dict: for each sign and pairs of its kids' moods the pair of moods."""
    here, there = leads(signs, one), leads(signs, other)
    pairs = list(product(range(one[0]), range(other[0])))
    found = {}
    for sign, (_, kids) in enumerate(signs):
        for chosen in product(pairs, repeat=kids):
            found[(sign, chosen)] = (here[(sign, tuple(pair[0] for pair in chosen))],
                                     there[(sign, tuple(pair[1] for pair in chosen))])
    return found


def state(told, tree):
    """To what a tree comes by such a dict."""
    return told[(tree[0], tuple(state(told, kid) for kid in tree[1:]))]


def met(told):
    """To what any tree comes, found from the leaves until nothing more is found."""
    found = []
    while True:
        more = [result for (_, kids), result in told.items()
                if result not in found and all(kid in found for kid in kids)]
        if not more:
            return found
        found.append(more[0])


def best(told):
    """A dict: for each state that is met, the tree that goes ahead of all others that come to it.

    A tree is here a tuple of its size, its sign and its kids, which are such tuples: these
    compare as point 5 orders trees.
    """
    found = {}
    while True:
        news = {}
        for (sign, kids), result in told.items():
            if all(kid in found for kid in kids):
                size = 1 + sum(found[kid][0] for kid in kids)
                tree = (size, sign) + tuple(found[kid] for kid in kids)
                news[result] = min(tree, news.get(result, tree))
        if news == found:
            return found
        found = news


def best_row(tree):
    told = (tree[1],)
    for kid in tree[2:]:
        told = told + best_row(kid)
    return told


def parted(signs, plain):
    """A dict: for each pair of moods whether some tree put around them is liked of just one."""
    moods, _, liked = plain
    told = leads(signs, plain)
    unlike = {pair: (pair[0] in liked) != (pair[1] in liked) for pair in product(range(moods), repeat=2)}
    while True:
        before = dict(unlike)
        for (sign, kids), result in told.items():
            for place, kid in enumerate(kids):
                for other in range(moods):
                    around = told[(sign, kids[:place] + (other,) + kids[place + 1:])]
                    if before[(result, around)]:
                        unlike[(kid, other)] = True
        if unlike == before:
            return unlike


def least(signs, plain):
    """The least plain reader, word by word as point 9 tells it."""
    told = leads(signs, plain)
    unlike = parted(signs, plain)
    reached = met(told)
    # For each mood the first one that is met and that nothing parts from it stands for both.
    head = {mood: [other for other in reached if not unlike[(mood, other)]][0] for mood in reached}
    numbered = []
    while True:
        firsts = []
        for sign, (_, kids) in enumerate(signs):
            for chosen in product(range(len(numbered)), repeat=kids):
                result = head[told[(sign, tuple(numbered[number] for number in chosen))]]
                if result not in numbered:
                    firsts.append(((sign, chosen), result))
        if not firsts:
            break
        numbered.append(min(firsts)[1])
    tables = []
    for sign, (_, kids) in enumerate(signs):
        tables.append([numbered.index(head[told[(sign, tuple(chosen))]])
                       for chosen in product(numbered, repeat=kids)])
    return (len(numbered), tables, [number for number, mood in enumerate(numbered) if mood in plain[2]])


def shows(signs, one, other, pairs):
    """Whether pairs show that two plain readers are the same, word by word as point 14 tells it."""
    told = pair_leads(signs, one, other)
    for here, there in pairs:
        if here not in range(one[0]) or there not in range(other[0]):
            return False
        if (here in one[2]) != (there in other[2]):
            return False
    for sign, (_, kids) in enumerate(signs):
        for chosen in product(pairs, repeat=kids):
            if told[(sign, chosen)] not in pairs:
                return False
    return True


def guessed(rules, tree):
    """The set of the moods to which a guesser comes from a tree."""
    of_kids = [guessed(rules, kid) for kid in tree[1:]]
    found = set()
    for sign, kids, mood in rules:
        if sign == tree[0] and all(kid in moods for kid, moods in zip(kids, of_kids)):
            found.add(mood)
    return found
