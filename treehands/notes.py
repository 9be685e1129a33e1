"""How trees, patterns, readers and turners are written and read again (points 29 to 31)."""

from treehands.errors import NoReader, NoText, NoTurner
from treehands.figures import read_number
from treehands.patterns import PatternSigns, check_pattern, is_pattern
from treehands.readers import Reader
from treehands.trees import check_tree, is_row, is_tree, led
from treehands.turners import Turner
from treehands.turning import MadeSigns

PARTS = " / "
ROWS = " ; "
NONE = "-"


def row_text(signs, row):
    """A row, written by the names of its signs, however long it is."""
    def lead(sign, kids):
        name = signs.name(sign)
        return name + "(" + ",".join(kids) + ")" if kids else name

    return led(signs, row, lead)


def row_read(signs, text):
    """The row that a text writes."""
    words = text.replace("(", ",").replace(")", ",").split(",")
    row = tuple([signs.number(word) for word in words if word != ""])
    if None in row or not is_row(signs, row):
        raise NoText("not the names of a tree's signs")
    # The names alone tell the row, so all that stands between them is right if it is written so again.
    if row_text(signs, row) != text:
        raise NoText("the names do not stand as a tree is written")
    return row


def numbers_text(numbers, between):
    """Numbers, written with something between two."""
    return between.join([str(number) for number in numbers])


def numbers_read(text, between):
    """The list of the numbers that a text writes with something between two."""
    numbers = [read_number(word) for word in text.split(between)]
    if None in numbers:
        raise NoText("not numbers by figures")
    return numbers


def tree_text(book, tree):
    """A tree, written."""
    check_tree(book, tree)
    return row_text(book, tree)


def tree_read(book, text):
    """The tree that a text writes."""
    tree = row_read(book, text)
    if not is_tree(book, tree):
        raise NoText("a tree of more than 40 signs")
    return tree


def pattern_text(book, pattern):
    """A pattern, written."""
    check_pattern(book, pattern)
    return row_text(PatternSigns(book), pattern)


def pattern_read(book, text):
    """The pattern that a text writes."""
    pattern = row_read(PatternSigns(book), text)
    if not is_pattern(book, pattern):
        raise NoText("a pattern of more than 6 numbers")
    return pattern


def reader_text(reader):
    """A reader, written."""
    liked = reader.liked()
    tables = [numbers_text(reader.table(sign), " ") for sign in range(reader.book().many())]
    return PARTS.join([str(reader.moods()), numbers_text(liked, ",") if liked else NONE, ROWS.join(tables)])


def reader_read(book, text):
    """The reader that a text writes."""
    parts = text.split(PARTS)
    if len(parts) != 3:
        raise NoText("a reader is written as its moods, those that it likes, and its tables")
    moods = read_number(parts[0])
    if moods is None:
        raise NoText("not a number by figures")
    liked = [] if parts[1] == NONE else numbers_read(parts[1], ",")
    tables = [numbers_read(table, " ") for table in parts[2].split(ROWS)]
    try:
        return Reader(book, moods, tables, liked)
    except NoReader:
        raise NoText("no reader that may be handed in") from None


def turner_text(turner):
    """A turner, written."""
    signs = MadeSigns(turner.goals())
    made = [[row_text(signs, turner.row(state, sign)) for sign in range(turner.book().many())]
            for state in range(turner.states())]
    return PARTS.join([ROWS.join(rows) for rows in made])


def turner_read(book, goals, text):
    """The turner that a text writes."""
    signs = MadeSigns(goals)
    rows = [[row_read(signs, row) for row in state.split(ROWS)] for state in text.split(PARTS)]
    try:
        return Turner(book, goals, rows)
    except NoTurner:
        raise NoText("no turner that may be handed in") from None
