"""Trees by their rows, the order of trees, places and parts (points 4 to 6).

A row names the sign of a tree first and the rows of its kids behind it. So
each part of a tree is a stretch of its row, known by where it starts and by
how many signs it has.

For is_row, sizes_of, kid_starts and led the book may be anything that tells
which signs it has and how many kids each has: in the rows of patterns and of
turners something else may stand in the place of a whole tree.
"""

from treehands.errors import NoPlace, NoTree

MOST_SIGNS = 40


def is_row(book, row):
    """Whether a tuple of whole numbers is the row of a tree, however long."""
    due = 1
    for sign in row:
        if due == 0 or not book.has(sign):
            return False
        due = due + book.kids(sign) - 1
    return due == 0


def is_tree(book, tree):
    """Whether a tuple of whole numbers is the row of a tree of 1 to 40 signs."""
    return len(tree) <= MOST_SIGNS and is_row(book, tree)


def check_tree(book, tree):
    """Refuse what is no tree that may be handed in."""
    if not is_tree(book, tree):
        raise NoTree("not the row of a tree of 1 to 40 signs of this book")


def sizes_of(book, row):
    """A list: for each number of a row, how many signs the part has that starts there."""
    sizes = [1] * len(row)
    # From behind: the kids of a sign stand behind it, so their sizes are known.
    for start in reversed(range(len(row))):
        for _ in range(book.kids(row[start])):
            sizes[start] = sizes[start] + sizes[start + sizes[start]]
    return sizes


def kid_starts(book, row, sizes, start):
    """Where in a row the kids start of the part that starts there."""
    starts = []
    behind = start + 1
    for _ in range(book.kids(row[start])):
        starts.append(behind)
        behind = behind + sizes[behind]
    return starts


def led(book, row, lead):
    """What a row leads to, where `lead` tells it of a sign and the tuple of what its kids lead to."""
    waiting = []
    # From behind: a sign's kids stand behind it, and what came last is its first kid's.
    for sign in reversed(row):
        kids = []
        for _ in range(book.kids(sign)):
            kids.append(waiting.pop())
        waiting.append(lead(sign, tuple(kids)))
    return waiting[0]


def shares(size, kids):
    """The list of the tuples of the kids' sizes in trees of just so many signs, in the order of point 5."""
    if kids == 0:
        return [()] if size == 1 else []
    if kids == 1:
        return [(size - 1,)] if size > 1 else []
    return [(here, size - 1 - here) for here in range(1, size - 1)]


def rank(book, row):
    """A list that compares with another tree's list as point 5 orders the trees.

    It has a tuple for each part, in the order of the row: how many signs the
    part has, and its own sign.
    """
    # Lists compare by their first unlike tuples. Ahead of these the trees are
    # the same, so all that encloses the two parts differs first just there.
    return list(zip(sizes_of(book, row), row))


def start_at(book, row, sizes, place):
    """Where in a row the part starts that stands at a place."""
    start = 0
    for number in place:
        starts = kid_starts(book, row, sizes, start)
        if not 0 <= number < len(starts):
            raise NoPlace("no place in this tree")
        start = starts[number]
    return start


def kids_of(book, tree):
    """The list of the kids of a tree."""
    check_tree(book, tree)
    sizes = sizes_of(book, tree)
    return [tree[start:start + sizes[start]] for start in kid_starts(book, tree, sizes, 0)]


def height(book, tree):
    """How many signs the longest path of a tree has."""
    check_tree(book, tree)
    sizes = sizes_of(book, tree)
    heights = [1] * len(tree)
    for start in reversed(range(len(tree))):
        for kid in kid_starts(book, tree, sizes, start):
            heights[start] = max(heights[start], heights[kid] + 1)
    return heights[0]


def parts(book, tree):
    """The list of all trees that stand in a tree, each once, in the order of point 5."""
    check_tree(book, tree)
    found = {}
    for start, size in enumerate(sizes_of(book, tree)):
        found[tree[start:start + size]] = True
    ranked = sorted([(rank(book, part), part) for part in found])
    return [pair[1] for pair in ranked]


def ahead(book, one, other):
    """Which of two trees goes ahead: -1 the one, 1 the other one, 0 if they are the same."""
    check_tree(book, one)
    check_tree(book, other)
    if one == other:
        return 0
    if rank(book, one) < rank(book, other):
        return -1
    return 1


def places(book, tree):
    """The list of all places in a tree, as tuples compare."""
    check_tree(book, tree)
    sizes = sizes_of(book, tree)
    found = [()] * len(tree)
    for start in range(len(tree)):
        for number, kid in enumerate(kid_starts(book, tree, sizes, start)):
            found[kid] = found[start] + (number,)
    # The parts start in the order of their places, so there is nothing to sort.
    return found


def at(book, tree, place):
    """The tree that stands at a place in a tree."""
    check_tree(book, tree)
    sizes = sizes_of(book, tree)
    start = start_at(book, tree, sizes, place)
    return tree[start:start + sizes[start]]


def put(book, tree, place, other):
    """The tree in which the other tree stands at a place."""
    check_tree(book, tree)
    sizes = sizes_of(book, tree)
    start = start_at(book, tree, sizes, place)
    check_tree(book, other)
    return tree[:start] + other + tree[start + sizes[start]:]
