"""Guessers: readers that may come to several moods or to none (point 15)."""

from treehands.errors import NoGuesser
from treehands.growing import least_reader
from treehands.readers import are_liked
from treehands.trees import check_tree, led

MOST_MOODS = 5
MOST_RULES = 30


def is_rule(book, moods, rule):
    """Whether a tuple is a rule: a sign, a tuple of the kids' moods, and a mood."""
    if len(rule) != 3 or not 0 <= rule[0] < book.many():
        return False
    if len(rule[1]) != book.kids(rule[0]):
        return False
    return all([0 <= mood < moods for mood in rule[1] + (rule[2],)])


def is_fitting(wanted, kids):
    """Whether each wanted mood is among the moods of the kid at its place."""
    return all([mood in moods for mood, moods in zip(wanted, kids)])


class Guesser:
    """Comes from each tree of its book to the moods that its rules let, and likes some moods."""

    def __init__(self, book, moods, rules, liked):
        if not 1 <= moods <= MOST_MOODS:
            raise NoGuesser("a guesser has 1 to 5 moods")
        if not 1 <= len(rules) <= MOST_RULES:
            raise NoGuesser("a guesser has 1 to 30 rules")
        if not all([is_rule(book, moods, rule) for rule in rules]):
            raise NoGuesser("a rule is a sign, a mood for each of its kids, and a mood")
        if not are_liked(liked, moods):
            raise NoGuesser("the liked moods are moods of the guesser, rising, each once")
        self._book = book
        self._rules = list(rules)
        self._liked = list(liked)

    def lead(self, sign, kids):
        """The rising tuple of the moods to which a sign may lead from the kids' tuples of moods."""
        return tuple(sorted({rule[2] for rule in self._rules
                             if rule[0] == sign and is_fitting(rule[1], kids)}))

    def likes_one(self, moods):
        """Whether one of the moods is liked."""
        return any([mood in self._liked for mood in moods])

    def moods_of(self, tree):
        """The rising list of the moods to which the guesser comes from a tree."""
        check_tree(self._book, tree)
        return list(led(self._book, tree, self.lead))

    def likes(self, tree):
        """Whether the guesser comes from a tree to a mood that it likes."""
        return self.likes_one(self.moods_of(tree))

    def reader(self):
        """The least reader with the guesser's set."""
        return least_reader(self._book, self.lead, self.likes_one)
