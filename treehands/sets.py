"""Sets of trees by their readers (points 9 and 11 to 14)."""

from treehands.errors import Unlike
from treehands.growing import first_tree, grown, is_closed, least_reader


def check_alike(one, other):
    """Refuse readers of books that are not alike."""
    if not one.book().is_like(other.book()):
        raise Unlike("the books of the two readers are not alike")


def paired(one, other):
    """The function that leads from the kids' pairs of moods to the pair of moods."""
    def lead(sign, kids):
        here = one.lead(sign, tuple([kid[0] for kid in kids]))
        there = other.lead(sign, tuple([kid[1] for kid in kids]))
        return (here, there)

    return lead


def combined(one, other, likes):
    """The reader of the trees that are liked by what the two readers say of them."""
    check_alike(one, other)
    one_liked = one.liked()
    other_liked = other.liked()
    return least_reader(one.book(), paired(one, other),
                        lambda pair: likes(pair[0] in one_liked, pair[1] in other_liked))


def joined(one, other):
    """The reader of the trees in the one set or the other one or both."""
    return combined(one, other, lambda here, there: here or there)


def met(one, other):
    """The reader of the trees in both sets."""
    return combined(one, other, lambda here, there: here and there)


def less(one, other):
    """The reader of the trees in the one set and not in the other one."""
    return combined(one, other, lambda here, there: here and not there)


def about(reader):
    """The reader of the trees that are not in the set."""
    liked = reader.liked()
    return least_reader(reader.book(), reader.lead, lambda mood: mood not in liked)


def least(reader):
    """The least reader of the set."""
    liked = reader.liked()
    return least_reader(reader.book(), reader.lead, lambda mood: mood in liked)


def first_to(reader):
    """A list: for each mood its first tree, None where it is not met."""
    growth = grown(reader.book(), reader.lead, True)
    told = [None] * reader.moods()
    for number, mood in enumerate(growth.found):
        told[mood] = growth.tree(number)
    return told


def first(reader):
    """The first liked tree, or None."""
    growth = grown(reader.book(), reader.lead, True)
    liked = reader.liked()
    for number, mood in enumerate(growth.found):
        if mood in liked:
            return growth.tree(number)
    return None


def same(one, other):
    """A paper: ("alike", pairs), or ("unlike", tree) with the first tree that just one likes."""
    check_alike(one, other)
    growth = grown(one.book(), paired(one, other), True)
    tree = first_tree(growth, lambda pair: not is_fair(one, other, pair))
    return ("alike", sorted(growth.found)) if tree is None else ("unlike", tree)


def is_fair(one, other, pair):
    """Whether both moods of a pair are liked, or none."""
    return (pair[0] in one.liked()) == (pair[1] in other.liked())


def is_pair(one, other, pair):
    """Whether a tuple is a mood of the one reader and a mood of the other one."""
    return 0 <= pair[0] < one.moods() and 0 <= pair[1] < other.moods()


def shows(one, other, pairs):
    """Whether a list of pairs of moods shows that the two readers are the same."""
    check_alike(one, other)
    if not all([is_pair(one, other, pair) and is_fair(one, other, pair) for pair in pairs]):
        return False
    return is_closed(one.book(), paired(one, other), pairs)
