"""States to which trees lead: grown from the leaves, merged and numbered.

A state is all that is known of a tree: a mood, the moods of two readers, some
moods of a guesser. A function `lead` tells the state of a tree by its sign and
the tuple of its kids' states, so no tree has to be built for it.
"""

from heapq import heappop, heappush

from treehands.errors import TooGreat
from treehands.readers import told_reader

MOST_TOLD = 200


class Growth:
    """States in the order in which they were taken, each with a tree that leads to it."""

    def __init__(self):
        self.found = []
        self.sizes = []
        self._ways = []
        self._numbers = {}

    def has(self, state):
        """Whether a state was taken."""
        return state in self._numbers

    def size(self, kids):
        """How many signs the tree has whose kids are the trees of these numbers."""
        return 1 + sum([self.sizes[kid] for kid in kids])

    def take(self, state, sign, kids):
        """Take the state to which a sign leads from the states of these numbers."""
        self._numbers[state] = len(self.found)
        self.found.append(state)
        self.sizes.append(self.size(kids))
        self._ways.append((sign, kids))

    def tree(self, number):
        """The tree that leads to the state of this number."""
        row = []
        waiting = [number]
        while waiting:
            sign, kids = self._ways[waiting.pop()]
            row.append(sign)
            waiting.extend(kids[::-1])
        return tuple(row)

    def tables(self, book, lead):
        """The list of the signs' tables over the numbers of the states."""
        return [[self._numbers[lead(sign, kids)] for kids in choices(self.found, book.kids(sign))]
                for sign in range(book.many())]


def picks(lists):
    """The list of all tuples of a thing of each list, as the things of the first list follow first."""
    told = [()]
    for things in lists:
        told = [choice + (thing,) for choice in told for thing in things]
    return told


def choices(things, kids):
    """The list of all tuples of so many of the things, in the order of a table."""
    return picks([things] * kids)


def ready(many, kids):
    """The tuples of kids' numbers that become ready by the newest of so many states."""
    newest = many - 1
    if many == 0 and kids == 0:
        # A sign without kids is ready from the start, and never becomes so again.
        return [()]
    if many == 0 or kids == 0:
        return []
    if kids == 1:
        return [(newest,)]
    return [(newest, kid) for kid in range(many)] + [(kid, newest) for kid in range(newest)]


def push_ready(waiting, book, lead, growth, by_size):
    """Put all that becomes ready by the newest state among what waits."""
    for sign in range(book.many()):
        for kids in ready(len(growth.found), book.kids(sign)):
            state = lead(sign, tuple([growth.found[kid] for kid in kids]))
            if not growth.has(state):
                size = growth.size(kids) if by_size else 0
                # The sign and the kids come but once, so the states are never compared.
                heappush(waiting, (size, sign, kids, state))


def grown(book, lead, by_size):
    """The growth of all states to which trees of a book lead.

    Again and again the first sign whose kids' states have numbers, and whose own
    state has none, gives that state the next number: signs by their numbers, then
    by the kids' numbers, as point 9 numbers moods.

    By size, the sizes of their trees come ahead of that. A tree that goes ahead of
    all others of its state has such trees as its kids, and these are unlike where
    their states are. So the states are taken in the order in which point 5 orders
    these trees.
    """
    growth = Growth()
    waiting = []
    push_ready(waiting, book, lead, growth, by_size)
    while waiting:
        _, sign, kids, state = heappop(waiting)
        if not growth.has(state):
            growth.take(state, sign, kids)
            push_ready(waiting, book, lead, growth, by_size)
    return growth


def first_tree(growth, wanted):
    """The first tree whose state is wanted, or None, by a growth by size; refused where it has too many signs."""
    for number, state in enumerate(growth.found):
        if wanted(state):
            if growth.sizes[number] > MOST_TOLD:
                raise TooGreat("the tree that goes ahead of all others has more than 200 signs")
            return growth.tree(number)
    return None


def is_closed(book, lead, states):
    """Whether from the states of a list each sign leads to one of them again."""
    known = {state: True for state in states}
    for sign in range(book.many()):
        for kids in choices(list(known), book.kids(sign)):
            if lead(sign, kids) not in known:
                return False
    return True


def first_same(marks):
    """A list: for each mark the place of the first one that is the same."""
    places = {}
    for place, mark in enumerate(marks):
        places.setdefault(mark, place)
    return [places[mark] for mark in marks]


def outcomes(book, tables, heads, mood):
    """A mood's head and the heads of the moods to which it leads as a kid, as a tuple."""
    told = [mood]
    many = len(heads)
    for sign, table in enumerate(tables):
        if book.kids(sign) == 1:
            told.append(table[mood])
        if book.kids(sign) == 2:
            told.extend(table[mood * many:(mood + 1) * many] + table[mood::many])
    return tuple([heads[other] for other in told])


def merged(reader):
    """A list: for each mood the first of the moods that nothing parts from it."""
    book = reader.book()
    tables = [reader.table(sign) for sign in range(book.many())]
    liked = reader.liked()
    heads = first_same([mood in liked for mood in range(reader.moods())])
    while True:
        finer = first_same([outcomes(book, tables, heads, mood) for mood in range(reader.moods())])
        if finer == heads:
            return heads
        heads = finer


def grown_reader(book, lead, likes):
    """The reader whose moods are the states to which trees lead."""
    growth = grown(book, lead, False)
    liked = [number for number, state in enumerate(growth.found) if likes(state)]
    return told_reader(book, len(growth.found), growth.tables(book, lead), liked)


def least_reader(book, lead, likes):
    """The least reader of all trees whose state is liked."""
    reader = grown_reader(book, lead, likes)
    liked = reader.liked()
    heads = merged(reader)

    def lead_on(sign, kids):
        return heads[reader.lead(sign, kids)]

    return grown_reader(book, lead_on, lambda mood: mood in liked)
