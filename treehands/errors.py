"""The refusals of the package, one class for each kind."""


class HandError(ValueError):
    """Any refusal."""


class NoBook(HandError):
    """What was told is no book of signs."""


class NoTree(HandError):
    """A tuple is no row of a tree that may be handed in."""


class NoPlace(HandError):
    """A tuple is no place in the tree."""


class NoReader(HandError):
    """What was told is no reader."""


class Unlike(HandError):
    """Two books that have to be alike are not."""


class TooGreat(HandError):
    """A tree, a reader or a turner is greater than is let."""


class NoGuesser(HandError):
    """What was told is no guesser."""


class NoPattern(HandError):
    """A tuple is no pattern."""


class NoNumber(HandError):
    """A number, or a list of weights, is none that is let."""


class NoTurner(HandError):
    """What was told is no turner."""


class NoText(HandError):
    """A text does not write what is to be read."""


class NoLine(HandError):
    """A line has none of the forms of the desk."""


class NoName(HandError):
    """Nothing of the wanted kind is kept by a name."""


class Nothing(HandError):
    """There is no line to undo."""
