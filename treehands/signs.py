"""Books of signs (point 3)."""

from treehands.errors import NoBook

MOST_SIGNS = 6
LONGEST_NAME = 3
MOST_KIDS = 2


def is_name(name, longest):
    """Whether a text is a name of small letters, at most so many."""
    if not 1 <= len(name) <= longest:
        return False
    # Held against "a" and "z", for islower() also likes letters of other alphabets.
    return all(["a" <= letter <= "z" for letter in name])


def is_sign(sign):
    """Whether a tuple tells a sign: its name and how many kids it has."""
    return len(sign) == 2 and is_name(sign[0], LONGEST_NAME) and 0 <= sign[1] <= MOST_KIDS


def are_signs(signs):
    """Whether a list tells a book."""
    if not 1 <= len(signs) <= MOST_SIGNS:
        return False
    if not all([is_sign(sign) for sign in signs]):
        return False
    if len({sign[0] for sign in signs}) < len(signs):
        return False
    return any([sign[1] == 0 for sign in signs])


class Book:
    """The signs of which trees are built, numbered from 0 in their order."""

    def __init__(self, signs):
        if not are_signs(signs):
            raise NoBook("a book has 1 to 6 signs of unlike names, one at least without kids")
        self._names = [sign[0] for sign in signs]
        self._kids = [sign[1] for sign in signs]

    def many(self):
        """How many signs there are."""
        return len(self._names)

    def has(self, sign):
        """Whether a whole number is that of a sign."""
        return 0 <= sign < len(self._names)

    def name(self, sign):
        """The name of the sign of this number."""
        return self._names[sign]

    def kids(self, sign):
        """How many kids the sign of this number has."""
        return self._kids[sign]

    def number(self, name):
        """The number of the sign of this name, or None."""
        for sign, known in enumerate(self._names):
            if known == name:
                return sign
        return None

    def is_like(self, book):
        """Whether the other book has the same signs in the same order."""
        return self._names == book._names and self._kids == book._kids
