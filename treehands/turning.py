"""Made rows, and what comes of rows by a turner, reckoned before it is built.

A made row is a row of the goal book in which a tuple (state, kid) may stand in the
place of a whole tree: what comes of that kid, turned by that state.
"""

from treehands.errors import NoPlace
from treehands.figures import read_number
from treehands.trees import kid_starts, led, sizes_of


class MadeSigns:
    """The signs of a goal book and, like signs without kids, tuples of two numbers."""

    def __init__(self, goals):
        self._goals = goals

    def has(self, thing):
        """Whether a thing may stand in a made row, of some turner."""
        return len(thing) == 2 if isinstance(thing, tuple) else self._goals.has(thing)

    def kids(self, thing):
        """How many kids a thing has."""
        return 0 if isinstance(thing, tuple) else self._goals.kids(thing)

    def name(self, thing):
        """How a thing is written."""
        return f"{thing[0]}.{thing[1]}" if isinstance(thing, tuple) else self._goals.name(thing)

    def number(self, name):
        """The thing that is written so, or None."""
        if "." not in name:
            return self._goals.number(name)
        state, _, kid = name.partition(".")
        told = (read_number(state), read_number(kid))
        return None if None in told else told


class Turning:
    """A row of a turner's book whose parts are turned by the turner's states.

    What comes of them is a list of things: signs of the goal book, and tuples (state,
    start) for what comes of the part that starts there in the row, turned by that state.
    In the row itself tuples may stand as in made rows: of (state, kid), turned by
    another state, comes ((state, that state), kid).
    """

    def __init__(self, turner, signs, row):
        sizes = sizes_of(signs, row)
        self._turner = turner
        self._row = row
        self._kids = [kid_starts(signs, row, sizes, start) for start in range(len(row))]
        self._sizes = [()] * len(row)
        # From behind: the kids of a sign stand behind it, so what comes of them is known.
        for start in reversed(range(len(row))):
            self._sizes[start] = tuple([self._reckoned(state, start) for state in range(turner.states())])

    def _reckoned(self, state, start):
        """How many signs and tuples come of the part that starts there, where those of its kids are known."""
        if isinstance(self._row[start], tuple):
            return 1
        return self.size(self._opened(state, start))

    def _opened(self, state, start):
        """The things that come of the sign that stands there, which is no tuple."""
        return [(thing[0], self._kids[start][thing[1]]) if isinstance(thing, tuple) else thing
                for thing in self._turner.row(state, self._row[start])]

    def size(self, things):
        """How many signs and tuples come of things, however many."""
        return sum([self._sizes[thing[1]][thing[0]] if isinstance(thing, tuple) else 1 for thing in things])

    def built(self, things):
        """The tuple of all signs and tuples that come of things."""
        told = []
        waiting = things[::-1]
        while waiting:
            thing = waiting.pop()
            if not isinstance(thing, tuple):
                told.append(thing)
            elif isinstance(self._row[thing[1]], tuple):
                told.append(((self._row[thing[1]][0], thing[0]), self._row[thing[1]][1]))
            else:
                waiting.extend(self._opened(thing[0], thing[1])[::-1])
        return tuple(told)

    def kid(self, things, number):
        """The things of the kid of this number of the tree that comes of things; its row has no tuples."""
        while isinstance(things[0], tuple):
            things = self._opened(things[0][0], things[0][1])
        signs = MadeSigns(self._turner.goals())
        sizes = sizes_of(signs, things)
        starts = kid_starts(signs, things, sizes, 0)
        if not 0 <= number < len(starts):
            raise NoPlace("no place in what comes of this tree")
        return things[starts[number]:starts[number] + sizes[starts[number]]]


class Through:
    """Leads from a sign and its kids to what the trees lead to that come of it.

    A kid is told by the tuple of that to which it leads turned by each state, and so is
    what comes of the sign. `lead` tells of a sign of the goal book to what it leads.
    """

    def __init__(self, turner, lead):
        self._turner = turner
        self._lead = lead
        self._signs = MadeSigns(turner.goals())
        self._known = {}

    def lead(self, sign, kids):
        """The tuple of that to which the sign leads turned by each state."""
        return tuple([self._turned(state, sign, kids) for state in range(self._turner.states())])

    def _turned(self, state, sign, kids):
        """To what the sign leads turned by a state."""
        row = self._turner.row(state, sign)
        # What a made row leads to hangs on its tuples alone, and many kids are alike in these.
        known = (state, sign, tuple([kids[thing[1]][thing[0]] for thing in row if isinstance(thing, tuple)]))
        if known not in self._known:
            self._known[known] = self._led_row(row, kids)
        return self._known[known]

    def _led_row(self, row, kids):
        """To what a made row leads."""
        def lead_thing(thing, below):
            if isinstance(thing, tuple):
                return kids[thing[1]][thing[0]]
            return self._lead(thing, below)

        return led(self._signs, row, lead_thing)


class Sharing:
    """Numbers for trees that are not built: a sign and the numbers of its kids have one number."""

    def __init__(self):
        self.numbers = {}

    def lead(self, sign, kids):
        """The number of the tree of a sign whose kids have these numbers."""
        return self.numbers.setdefault((sign, kids), len(self.numbers))
