"""Sets ahead of a turner, and whether a turner lands in a set (points 26 to 28)."""

from treehands.errors import NoTree, Unlike
from treehands.growing import first_tree, grown, is_closed, least_reader
from treehands.trees import is_tree, led
from treehands.turning import Sharing, Through

MOST_BACK = 5


def check_goals(turner, goal):
    """Refuse a reader of another book than the goal book."""
    if not turner.goals().is_like(goal.book()):
        raise Unlike("the goal book of the turner and the reader's book are not alike")


def check_books(turner, source, goal):
    """Refuse a source of another book than the turner's, or a goal of another one than its goal book."""
    if not turner.book().is_like(source.book()):
        raise Unlike("the book of the turner and that of the source are not alike")
    check_goals(turner, goal)


def before(turner, reader):
    """The least reader of all trees that are turned into a liked one."""
    check_goals(turner, reader)
    liked = reader.liked()
    through = Through(turner, reader.lead)
    return least_reader(turner.book(), through.lead, lambda moods: moods[0] in liked)


def back(turner, tree):
    """The first tree that is turned into a tree of the goal book, or None."""
    goals = turner.goals()
    if len(tree) > MOST_BACK or not is_tree(goals, tree):
        raise NoTree("not the row of a tree of 1 to 5 signs of the goal book")
    sharing = Sharing()
    wanted = led(goals, tree, sharing.lead)
    parts = sharing.numbers
    # All trees but the parts of the wanted one are alike here: none of them is ever a part of it.
    through = Through(turner, lambda sign, kids: parts.get((sign, kids), -1))
    return first_tree(grown(turner.book(), through.lead, True), lambda state: state[0] == wanted)


def landing(turner, source, goal):
    """The function that leads from the kids' tuples (mood, moods) to that of a tree."""
    through = Through(turner, goal.lead)

    def lead(sign, kids):
        mood = source.lead(sign, tuple([kid[0] for kid in kids]))
        return (mood, through.lead(sign, tuple([kid[1] for kid in kids])))

    return lead


def is_landed(source, goal, state):
    """Whether the goal likes the first of the moods, where the source likes the mood."""
    return state[0] not in source.liked() or state[1][0] in goal.liked()


def lands(turner, source, goal):
    """A paper: ("always", rows), or ("not", tree) with the first tree that does not land."""
    check_books(turner, source, goal)
    growth = grown(turner.book(), landing(turner, source, goal), True)
    tree = first_tree(growth, lambda state: not is_landed(source, goal, state))
    return ("always", sorted(growth.found)) if tree is None else ("not", tree)


def is_state(turner, source, goal, row):
    """Whether a tuple is a mood of the source and a mood of the goal for each state."""
    if not 0 <= row[0] < source.moods() or len(row[1]) != turner.states():
        return False
    return all([0 <= mood < goal.moods() for mood in row[1]])


def shows_lands(turner, source, goal, rows):
    """Whether a list of tuples (mood, moods) shows that a turner lands from a source in a goal."""
    check_books(turner, source, goal)
    if not all([is_state(turner, source, goal, row) and is_landed(source, goal, row) for row in rows]):
        return False
    return is_closed(turner.book(), landing(turner, source, goal), rows)
