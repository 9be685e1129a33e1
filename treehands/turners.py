"""Turners: they go through trees from the top and make other ones of them (points 22 to 25)."""

from treehands.errors import NoNumber, NoTurner, TooGreat, Unlike
from treehands.growing import MOST_TOLD, picks
from treehands.trees import check_tree, is_row, shares
from treehands.turning import MadeSigns, Sharing, Through, Turning

MOST_STATES = 3
LONGEST_ROW = 8
LONGEST_BEHIND = 60
MOST_TIMES = 20
MOST_PARTED = 5


def is_made_row(goals, states, kids, row):
    """Whether a tuple is a made row of so many states and of a sign with so many kids."""
    if not 1 <= len(row) <= LONGEST_ROW or not is_row(MadeSigns(goals), row):
        return False
    return all([0 <= thing[0] < states and 0 <= thing[1] < kids for thing in row if isinstance(thing, tuple)])


def are_made_rows(book, goals, states, rows):
    """Whether a list has the made row of each sign of a book."""
    if len(rows) != book.many():
        return False
    return all([is_made_row(goals, states, book.kids(sign), row) for sign, row in enumerate(rows)])


class Turner:
    """Turns each tree of its book into one of its goal book, by its states and their made rows."""

    def __init__(self, book, goals, rows):
        if not 1 <= len(rows) <= MOST_STATES:
            raise NoTurner("a turner has 1 to 3 states")
        if not all([are_made_rows(book, goals, len(rows), made) for made in rows]):
            raise NoTurner("a state has for each sign a made row of 1 to 8 numbers and tuples")
        self._keep(book, goals, rows)

    def _keep(self, book, goals, rows):
        """Keep copies of what makes the turner."""
        self._book = book
        self._goals = goals
        self._rows = [list(made) for made in rows]

    def book(self):
        """The book of the trees that are turned."""
        return self._book

    def goals(self):
        """The goal book, of the trees that come of them."""
        return self._goals

    def states(self):
        """How many states there are."""
        return len(self._rows)

    def row(self, state, sign):
        """The made row of a state and a sign."""
        return self._rows[state][sign]


def told_turner(book, goals, rows):
    """A turner that is told, so it may have more states and longer rows than one that is handed in."""
    # Made of the least rows first, for the class itself refuses greater ones.
    leaf = [sign for sign in range(goals.many()) if goals.kids(sign) == 0][0]
    turner = Turner(book, goals, [[(leaf,)] * book.many()])
    turner._keep(book, goals, rows)
    return turner


def turned_row(turner, row):
    """What comes of a row, however long, where it has at most 200 signs."""
    turning = Turning(turner, turner.book(), row)
    whole = [(0, 0)]
    if turning.size(whole) > MOST_TOLD:
        raise TooGreat("what comes of this tree has more than 200 signs")
    return turning.built(whole)


def turned(turner, tree):
    """The tree that comes of a tree."""
    check_tree(turner.book(), tree)
    return turned_row(turner, tree)


def size_turned(turner, tree):
    """How many signs the tree has that comes of a tree."""
    check_tree(turner.book(), tree)
    return Turning(turner, turner.book(), tree).size([(0, 0)])


def part_turned(turner, tree, place):
    """The part at a place of the tree that comes of a tree."""
    check_tree(turner.book(), tree)
    turning = Turning(turner, turner.book(), tree)
    things = [(0, 0)]
    for number in place:
        things = turning.kid(things, number)
    if turning.size(things) > MOST_TOLD:
        raise TooGreat("the part at this place has more than 200 signs")
    return turning.built(things)


def behind_row(one, other, pair, sign):
    """The made row of a pair of states and a sign, with tuples (pair, kid) in it."""
    turning = Turning(other, MadeSigns(one.goals()), one.row(pair[0], sign))
    whole = [(pair[1], 0)]
    if turning.size(whole) > LONGEST_BEHIND:
        raise TooGreat("a made row would have more than 60 numbers and tuples")
    return turning.built(whole)


def behind(one, other):
    """The turner that does first what the one and then what the other one does."""
    if not one.goals().is_like(other.book()):
        raise Unlike("the goal book of the first and the book of the second turner are not alike")
    found = [(0, 0)]
    numbers = {(0, 0): 0}
    rows = []
    while len(rows) < len(found):
        pair = found[len(rows)]
        made = [behind_row(one, other, pair, sign) for sign in range(one.book().many())]
        for row in made:
            for thing in row:
                if isinstance(thing, tuple) and thing[0] not in numbers:
                    numbers[thing[0]] = len(found)
                    found.append(thing[0])
        rows.append([numbered_row(row, numbers) for row in made])
    return told_turner(one.book(), other.goals(), rows)


def numbered_row(row, numbers):
    """A made row with the numbers of the pairs of states instead of these."""
    return tuple([(numbers[thing[0]], thing[1]) if isinstance(thing, tuple) else thing for thing in row])


def idle(book):
    """The turner of one state that leaves each tree as it is."""
    rows = [(sign,) + tuple([(0, kid) for kid in range(book.kids(sign))]) for sign in range(book.many())]
    return Turner(book, book, [rows])


def again(turner, tree, times):
    """What comes of a tree that is turned so many times."""
    if not turner.book().is_like(turner.goals()):
        raise Unlike("the book and the goal book are not alike")
    check_tree(turner.book(), tree)
    if not 0 <= times <= MOST_TIMES:
        raise NoNumber("a tree is turned 0 to 20 times")
    for _ in range(times):
        tree = turned_row(turner, tree)
    return tree


def parted(one, other, size):
    """The first tree of at most so many signs that the two turners turn into unlike trees, or None."""
    if not (one.book().is_like(other.book()) and one.goals().is_like(other.goals())):
        raise Unlike("the books or the goal books of the two turners are not alike")
    if not 1 <= size <= MOST_PARTED:
        raise NoNumber("trees of 1 to 5 signs part two turners")
    sharing = Sharing()
    turns = (Through(one, sharing.lead), Through(other, sharing.lead))
    # For each size its trees in the order of point 5, each with what comes of it by the two.
    known = [[]]
    for many in range(1, size + 1):
        found = [turned_twice(turns, sign, kids) for sign, kids in forms(one.book(), known, many)]
        for row, here, there in found:
            if here[0] != there[0]:
                return row
        known.append(found)
    return None


def forms(book, known, size):
    """The list of all signs with kids of trees of just so many signs, in the order of point 5."""
    return [(sign, kids) for sign in range(book.many()) for share in shares(size, book.kids(sign))
            for kids in picks([known[many] for many in share])]


def turned_twice(turns, sign, kids):
    """A tree of a sign and to what it leads by each of two turns, from such tuples of its kids."""
    row = (sign,)
    for kid in kids:
        row = row + kid[0]
    return (row, turns[0].lead(sign, tuple([kid[1] for kid in kids])),
            turns[1].lead(sign, tuple([kid[2] for kid in kids])))
