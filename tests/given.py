"""What the tests hand in: books, trees, tuples that are no trees, and readers."""

import unittest

import slow
from treehands.errors import HandError
from treehands.readers import Reader
from treehands.signs import Book

# The book of the document: sign 0 has no kids, sign 1 has one, sign 2 two.
BOOK = Book([("a", 0), ("g", 1), ("f", 2)])
TWO = Book([("f", 2), ("a", 0), ("b", 0)])
LEAF = (0,)
TREE = (2, 1, 0, 0)
PATH = (1,) * 39 + (0,)
COMB = (2, 0) * 19 + (1, 0)
GREAT = 10 ** 29
OUTSIDE = (-1, -2, GREAT, -GREAT, 10 ** 30 - 1)

NO_TREES = (
    (),
    (1,), (2,), (2, 0), (2, 1, 0), (1, 1), (2, 2, 0, 0),
    (0, 0), (1, 0, 0), (0, 1), (2, 0, 0, 0), (2, 1, 0, 0, 0), (0, 2, 0, 0),
    (3,), (-1,), (-3,), (1, 3), (1, -1), (2, 0, 3), (2, -3, 0), (2, 0, -1), (3, 0, 0),
    (GREAT,), (-GREAT,), (2, GREAT, 0), (1, -GREAT), (10 ** 30 - 1,), (2, 0, 10 ** 30 - 1),
    (1,) * 40 + (0,), (2, 0) * 20 + (0,), (0,) * 41, (0,) * 40, (1,) * 40, (1,) * 100,
    (1,) * 99 + (0,), (2, 0) * 150 + (0,),
)

# Books that are not alike to BOOK: by a name, a number of kids, the order, a sign more or less.
UNLIKE = (
    [("b", 0), ("g", 1), ("f", 2)],
    [("a", 0), ("h", 1), ("f", 2)],
    [("a", 0), ("g", 0), ("f", 2)],
    [("a", 0), ("g", 2), ("f", 2)],
    [("a", 0), ("g", 1), ("f", 1)],
    [("a", 0), ("f", 2), ("g", 1)],
    [("g", 1), ("a", 0), ("f", 2)],
    [("a", 0), ("g", 1), ("f", 2), ("b", 0)],
    [("a", 0), ("g", 1)],
    [("a", 0)],
)


class HandTest(unittest.TestCase):
    def refused(self, name, call, *told):
        with self.assertRaises(HandError) as caught:
            call(*told)
        self.assertEqual(caught.exception.__class__.__name__, name)


def made(book, plain):
    """The Reader of a plain one, a tuple of the number of moods, the tables and the liked moods."""
    moods, tables, liked = plain
    return Reader(book, moods, tables, liked)


def plain_of(reader):
    """All that a Reader tells, but its book."""
    tables = [reader.table(sign) for sign in range(reader.book().many())]
    return (reader.moods(), tables, reader.liked())


def some_moods(chance, moods):
    return [mood for mood in range(moods) if chance.random() < 0.4]


def some_plain(chance, signs, moods):
    """A plain reader by chance, which `chance`, a random.Random, tells the same each time."""
    tables = [[chance.randrange(moods) for _ in range(moods ** kids)] for _, kids in signs]
    return (moods, tables, some_moods(chance, moods))


def some_rules(chance, signs, moods, many):
    """Rules of a guesser by chance."""
    rules = []
    for _ in range(many):
        sign = chance.randrange(len(signs))
        kids = tuple(chance.randrange(moods) for _ in range(signs[sign][1]))
        rules.append((sign, kids, chance.randrange(moods)))
    return rules


def some_tree(chance, signs, size):
    """A tree of just so many signs by chance; the signs must have none of 0, 1 and 2 kids left out."""
    left = size - 1
    kids = 0 if left == 0 else 1 if left == 1 else chance.choice((1, 2, 2))
    sign = chance.choice([number for number, told in enumerate(signs) if told[1] == kids])
    if kids == 0:
        return (sign,)
    if kids == 1:
        return (sign, some_tree(chance, signs, left))
    here = chance.randrange(1, left)
    return (sign, some_tree(chance, signs, here), some_tree(chance, signs, left - here))


def counting(signs, sign, moods, liked):
    """A plain reader that counts by so many how often a sign stands in a tree."""
    tables = []
    for number, (_, kids) in enumerate(signs):
        here = 1 if number == sign else 0
        tables.append([(sum(chosen) + here) % moods for chosen in slow.product(range(moods), repeat=kids)])
    return (moods, tables, liked)


def even_heights(moods):
    """A plain reader of the book [("a", 0), ("f", 2)] that counts heights.

    From a tree all of whose paths are as long it comes to the mood of its height less 1,
    from a higher or uneven one to the last mood. It likes the even trees.
    """
    last = moods - 1
    table = [here + 1 if here == there < last else last
             for here, there in slow.product(range(moods), repeat=2)]
    return (moods, [[0], table], list(range(last)))


def some_made_row(chance, goals, states, kids, size):
    """A made row of about so many numbers and tuples by chance."""
    takes = sorted({told[1] for told in goals if told[1] < size})
    many = chance.choice(takes[1:] or takes) if size > 1 else 0
    if many == 0:
        if kids and chance.random() < 0.8:
            return ((chance.randrange(states), chance.randrange(kids)),)
        return (chance.choice([sign for sign, told in enumerate(goals) if told[1] == 0]),)
    sign = chance.choice([number for number, told in enumerate(goals) if told[1] == many])
    if many == 1:
        return (sign,) + some_made_row(chance, goals, states, kids, size - 1)
    here = chance.randrange(1, size - 1)
    return ((sign,) + some_made_row(chance, goals, states, kids, here)
            + some_made_row(chance, goals, states, kids, size - 1 - here))


def some_rows(chance, signs, goals, states, most):
    """The made rows of a turner by chance, each of at most so many numbers and tuples."""
    return [[some_made_row(chance, goals, states, kids, chance.randrange(1, most + 1)) for _, kids in signs]
            for _ in range(states)]


def rows_of(turner):
    """All made rows that a Turner tells."""
    return [[turner.row(state, sign) for sign in range(turner.book().many())] for state in range(turner.states())]
