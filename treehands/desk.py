"""The desk: it keeps readers and turners by names and answers lines (points 32 to 35)."""

from treehands.counts import all_many, many, tree_at
from treehands.errors import NoLine, NoName, Nothing, TooGreat
from treehands.figures import is_number
from treehands.lands import before, lands
from treehands.notes import pattern_read, reader_read, reader_text, row_text, tree_read, turner_read, turner_text
from treehands.paths import shut
from treehands.patterns import fitting, holding
from treehands.readers import Reader
from treehands.sets import about, first, joined, least, less, met, same
from treehands.signs import is_name
from treehands.turners import LONGEST_ROW, MOST_STATES, Turner, behind, turned

LONGEST_NAME = 6

# What the words behind the first one stand for. "small" is a reader of at most 3
# moods, "any reader" and "any turner" are let however great they are, and "kept" is
# the name of anything.
FORMS = {
    "reader": ("new", "reader text"),
    "turner": ("new", "turner text"),
    "join": ("new", "reader", "reader"),
    "meet": ("new", "reader", "reader"),
    "less": ("new", "reader", "reader"),
    "about": ("new", "reader"),
    "least": ("new", "reader"),
    "shut": ("new", "small"),
    "like": ("new", "pattern"),
    "hold": ("new", "pattern"),
    "before": ("new", "turner", "small"),
    "behind": ("new", "turner", "turner"),
    "drop": ("kept",),
    "undo": (),
    "names": (),
    "show": ("kept",),
    "likes": ("any reader", "tree"),
    "first": ("reader",),
    "many": ("reader", "number"),
    "all": ("reader",),
    "at": ("reader", "number"),
    "same": ("reader", "reader"),
    "turn": ("any turner", "tree"),
    "lands": ("turner", "small", "small"),
}
WITH_TEXT = ("reader", "turner")
NAMES = ("new", "kept", "reader", "small", "any reader", "turner", "any turner")
MOST_MOODS = {"reader": 6, "small": 3}


def is_of(kind, word):
    """Whether a word may stand for what a form has at its place."""
    if kind in NAMES:
        return is_name(word, LONGEST_NAME)
    if kind == "number":
        return is_number(word)
    # A TEXT may be nothing at all, any other word has one sign or more.
    return kind in ("reader text", "turner text") or word != ""


def words_of(line):
    """The words of a line that has one of the forms."""
    words = line.split(" ")
    if words[0] in WITH_TEXT:
        words = line.split(" ", 2)
    if words[0] not in FORMS:
        raise NoLine("no line of the desk begins so")
    kinds = FORMS[words[0]]
    if len(words) != 1 + len(kinds) or not all([is_of(kind, word) for kind, word in zip(kinds, words[1:])]):
        raise NoLine("a line that begins so has another form")
    return words


def is_kept(kind, thing):
    """Whether a thing that is kept, or None, is of the kind that a form has at its place."""
    if kind in ("turner", "any turner"):
        return isinstance(thing, Turner)
    if kind == "kept":
        return thing is not None
    return isinstance(thing, Reader)


def read(book, kind, word):
    """What a word of a kind that is no name writes."""
    if kind == "reader text":
        return reader_read(book, word)
    if kind == "turner text":
        return turner_read(book, book, word)
    if kind == "pattern":
        return pattern_read(book, word)
    if kind == "tree":
        return tree_read(book, word)
    return int(word)


def is_let(kind, thing):
    """Whether what is kept is as small as what is handed in there."""
    if kind in MOST_MOODS:
        return thing.moods() <= MOST_MOODS[kind]
    if kind == "turner":
        rows = [thing.row(state, sign) for state in range(thing.states()) for sign in range(thing.book().many())]
        return thing.states() <= MOST_STATES and all([len(row) <= LONGEST_ROW for row in rows])
    return True


def made(book, word, told):
    """What a line keeps that begins with this word, of what is told behind its name."""
    match word:
        case "join":
            return joined(told[0], told[1])
        case "meet":
            return met(told[0], told[1])
        case "less":
            return less(told[0], told[1])
        case "about":
            return about(told[0])
        case "least":
            return least(told[0])
        case "shut":
            return shut(told[0])
        case "like":
            return fitting(book, told[0])
        case "hold":
            return holding(book, told[0])
        case "before":
            return before(told[0], told[1])
        case "behind":
            return behind(told[0], told[1])
    return told[0]


def shown(thing):
    """What is kept, written."""
    return reader_text(thing) if isinstance(thing, Reader) else turner_text(thing)


def answer(book, word, told):
    """The answer to a line that begins with this word and asks for something, of what is told behind it."""
    match word:
        case "show":
            return shown(told[0])
        case "likes":
            return "yes" if told[0].likes(told[1]) else "no"
        case "first":
            tree = first(told[0])
            return "none" if tree is None else row_text(book, tree)
        case "many":
            return str(many(told[0], told[1]))
        case "all":
            number = all_many(told[0])
            return "endless" if number is None else str(number)
        case "at":
            return row_text(book, tree_at(told[0], told[1]))
        case "same":
            paper = same(told[0], told[1])
            return "alike" if paper[0] == "alike" else "unlike " + row_text(book, paper[1])
        case "turn":
            return row_text(book, turned(told[0], told[1]))
    paper = lands(told[0], told[1], told[2])
    return "always" if paper[0] == "always" else "not " + row_text(book, paper[1])


class Desk:
    """Keeps readers and turners of one book by names, and answers lines."""

    def __init__(self, book):
        self._book = book
        self._kept = {}
        self._before = []

    def say(self, line):
        """The answer to a line."""
        words = words_of(line)
        kinds = FORMS[words[0]]
        told = self._told(kinds, words[1:])
        if kinds[:1] == ("new",):
            self._keep(words[1], made(self._book, words[0], told[1:]))
            return "ok"
        if words[0] == "drop":
            self._keep(words[1], None)
            return "ok"
        if words[0] == "undo":
            self._undo()
            return "ok"
        if words[0] == "names":
            return " ".join(sorted(self._kept))
        return answer(self._book, words[0], told)

    def _told(self, kinds, words):
        """What the words tell: what is kept by names, what is written, and a new name as it stands."""
        # One after the other for all words, for no name is refused behind what is no text.
        found = [self._found(kind, word) for kind, word in zip(kinds, words)]
        told = [thing if kind in NAMES else read(self._book, kind, thing) for kind, thing in zip(kinds, found)]
        if not all([is_let(kind, thing) for kind, thing in zip(kinds, told)]):
            raise TooGreat("a reader or a turner is greater than is let here")
        return told

    def _found(self, kind, word):
        """What is kept by a word that asks for it, else the word."""
        if kind == "new" or kind not in NAMES:
            return word
        thing = self._kept.get(word)
        if not is_kept(kind, thing):
            raise NoName("nothing that is wanted here is kept by this name")
        return thing

    def _keep(self, name, thing):
        """Keep a thing by a name, or drop what is kept where there is none, so that it may be undone."""
        self._before.append((name, self._kept.get(name)))
        self._put(name, thing)

    def _undo(self):
        """Put back what was kept ahead of the last line that is not undone yet."""
        if not self._before:
            raise Nothing("there is no line to undo")
        name, thing = self._before.pop()
        self._put(name, thing)

    def _put(self, name, thing):
        """Let a thing be kept by a name, or nothing."""
        if thing is None:
            del self._kept[name]
        else:
            self._kept[name] = thing
