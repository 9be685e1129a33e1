"""Patterns: rows in which -1 stands for any tree (point 16)."""

from treehands.errors import NoPattern
from treehands.growing import least_reader
from treehands.trees import check_tree, is_row, kid_starts, led, sizes_of

ANY = -1
ANY_NAME = "_"
LONGEST = 6


class PatternSigns:
    """The signs of a book and, like a sign without kids, what stands for any tree."""

    def __init__(self, book):
        self._book = book

    def has(self, sign):
        """Whether a whole number may stand in a pattern."""
        return sign == ANY or self._book.has(sign)

    def kids(self, sign):
        """How many kids a sign has."""
        return 0 if sign == ANY else self._book.kids(sign)

    def name(self, sign):
        """How a sign is written."""
        return ANY_NAME if sign == ANY else self._book.name(sign)

    def number(self, name):
        """The number of the sign that is written so, or None."""
        return ANY if name == ANY_NAME else self._book.number(name)


def is_pattern(book, pattern):
    """Whether a tuple of whole numbers is a pattern."""
    return len(pattern) <= LONGEST and is_row(PatternSigns(book), pattern)


def check_pattern(book, pattern):
    """Refuse what is no pattern."""
    if not is_pattern(book, pattern):
        raise NoPattern("not a pattern of 1 to 6 numbers of this book")


def fitted(book, pattern):
    """The function that leads from the kids' states to the state of a tree.

    A state is the rising tuple of the starts in the pattern whose parts the tree fits.
    """
    signs = PatternSigns(book)
    sizes = sizes_of(signs, pattern)
    below = [kid_starts(signs, pattern, sizes, place) for place in range(len(pattern))]

    def fits_at(start, sign, kids):
        if pattern[start] == ANY:
            return True
        return pattern[start] == sign and all([wanted in kid for wanted, kid in zip(below[start], kids)])

    return lambda sign, kids: tuple([start for start in range(len(pattern)) if fits_at(start, sign, kids)])


def fits(book, pattern, tree):
    """Whether a tree fits a pattern."""
    check_pattern(book, pattern)
    check_tree(book, tree)
    return 0 in led(book, tree, fitted(book, pattern))


def fitting(book, pattern):
    """The least reader of all trees that fit a pattern."""
    check_pattern(book, pattern)
    return least_reader(book, fitted(book, pattern), lambda starts: 0 in starts)


def holding(book, pattern):
    """The least reader of all trees with a part that fits a pattern."""
    check_pattern(book, pattern)
    lead = fitted(book, pattern)

    def lead_on(sign, kids):
        starts = lead(sign, tuple([kid[0] for kid in kids]))
        return (starts, 0 in starts or any([kid[1] for kid in kids]))

    return least_reader(book, lead_on, lambda state: state[1])
