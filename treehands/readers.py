"""Readers: they go through trees from the leaves (points 7 and 8)."""

from treehands.errors import NoReader
from treehands.trees import check_tree, led

MOST_MOODS = 6


def place_in_table(moods, kids):
    """Where in a table the mood stands for these moods of the kids."""
    place = 0
    for mood in kids:
        place = place * moods + mood
    return place


def table_size(moods, kids):
    """How many moods the table of a sign with so many kids has."""
    size = 1
    for _ in range(kids):
        size = size * moods
    return size


def is_table(table, moods, kids):
    """Whether a list is the table of a sign with so many kids."""
    return len(table) == table_size(moods, kids) and all([0 <= mood < moods for mood in table])


def are_tables(book, moods, tables):
    """Whether a list has the table of each sign of a book."""
    if len(tables) != book.many():
        return False
    return all([is_table(table, moods, book.kids(sign)) for sign, table in enumerate(tables)])


def are_liked(liked, moods):
    """Whether a list has some of so many moods, rising, each once."""
    before = -1
    for mood in liked:
        if not before < mood < moods:
            return False
        before = mood
    return True


class Reader:
    """Comes from each tree of its book to a mood, and likes some moods."""

    def __init__(self, book, moods, tables, liked):
        if not 1 <= moods <= MOST_MOODS:
            raise NoReader("a reader has 1 to 6 moods")
        if not are_tables(book, moods, tables):
            raise NoReader("a reader has for each sign a table of its moods")
        if not are_liked(liked, moods):
            raise NoReader("the liked moods are moods of the reader, rising, each once")
        self._keep(book, moods, tables, liked)

    def _keep(self, book, moods, tables, liked):
        """Keep copies of what makes the reader."""
        self._book = book
        self._moods = moods
        self._tables = [list(table) for table in tables]
        self._liked = list(liked)

    def book(self):
        """The book of the reader."""
        return self._book

    def moods(self):
        """How many moods there are."""
        return self._moods

    def table(self, sign):
        """The list of the moods to which a sign leads."""
        return list(self._tables[sign])

    def liked(self):
        """The rising list of the liked moods."""
        return list(self._liked)

    def lead(self, sign, kids):
        """The mood to which a sign leads from the tuple of its kids' moods."""
        return self._tables[sign][place_in_table(self._moods, kids)]

    def mood(self, tree):
        """The mood to which the reader comes from a tree."""
        check_tree(self._book, tree)
        return led(self._book, tree, self.lead)

    def likes(self, tree):
        """Whether the reader likes a tree."""
        return self.mood(tree) in self._liked


def told_reader(book, moods, tables, liked):
    """A reader that is told, so it may have more moods than one that is handed in."""
    # Made of one mood first, for the class itself refuses more than six.
    reader = Reader(book, 1, [[0] for _ in range(book.many())], [])
    reader._keep(book, moods, tables, liked)
    return reader
