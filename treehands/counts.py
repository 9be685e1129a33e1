"""How many trees a reader likes, their numbers, and the cheapest one (points 17 to 19)."""

from treehands.errors import NoNumber
from treehands.growing import choices, grown
from treehands.trees import check_tree, kids_of, rank, shares

MOST_COUNTED = 30
GREATEST_WEIGHT = 1000


class Tally:
    """How many trees of each size a reader leads to each of its moods, size by size.

    Worths are a list of a number for each mood. What trees are worth is the sum of
    the worths of the moods to which they come.
    """

    def __init__(self, reader):
        self._reader = reader
        self._book = reader.book()
        self._counts = [[0] * reader.moods()]
        self.liked_worths = [1 if mood in reader.liked() else 0 for mood in range(reader.moods())]

    def kids_counts(self, size, kids):
        """A list in the order of a table: how many choices of kids of these moods trees of a size have."""
        told = [0] * len(choices(self._counts[0], kids))
        for share in shares(size, kids):
            numbers = [1]
            for kid in share:
                numbers = [number * count for number in numbers for count in self._counts[kid]]
            told = [before + number for before, number in zip(told, numbers)]
        return told

    def count_to(self, size):
        """Count all trees of at most so many signs."""
        while len(self._counts) <= size:
            found = [0] * self._reader.moods()
            told = [self.kids_counts(len(self._counts), kids) for kids in range(3)]
            for sign in range(self._book.many()):
                for mood, number in zip(self._reader.table(sign), told[self._book.kids(sign)]):
                    found[mood] += number
            self._counts.append(found)

    def worth(self, worths, size):
        """What all trees of a size are worth."""
        self.count_to(size)
        return sum([count * worth for count, worth in zip(self._counts[size], worths)])

    def liked(self, size):
        """How many trees of a size are liked."""
        return self.worth(self.liked_worths, size)

    def share_worth(self, worths, sign, share, moods):
        """What the trees are worth of a sign whose kids have these sizes, the first of them these moods."""
        if len(moods) == len(share):
            return worths[self._reader.lead(sign, moods)]
        counts = self._counts[share[len(moods)]]
        return sum([count * self.share_worth(worths, sign, share, moods + (mood,))
                    for mood, count in enumerate(counts) if count > 0])

    def kid_worths(self, worths, sign, share, moods):
        """The worths for the kid behind those of these moods: what each mood of it makes the trees worth."""
        return [self.share_worth(worths, sign, share, moods + (mood,)) for mood in range(self._reader.moods())]

    def forms(self, size):
        """The list of all tuples of a sign and its kids' sizes of trees of a size, in the order of point 5."""
        return [(sign, share) for sign in range(self._book.many()) for share in shares(size, self._book.kids(sign))]

    def pick(self, worths, size, number):
        """The first tree of a size that, with those ahead of it, is worth more than a number.

        Told are the tree, its mood, and what the number is less those ahead are worth.
        """
        for sign, share in self.forms(size):
            here = self.share_worth(worths, sign, share, ())
            if number < here:
                return self.pick_kids(worths, sign, share, number)
            number = number - here
        return None

    def pick_kids(self, worths, sign, share, number):
        """As `pick` tells it, of the trees of a sign whose kids have these sizes."""
        row = (sign,)
        moods = ()
        for size in share:
            kid, mood, number = self.pick(self.kid_worths(worths, sign, share, moods), size, number)
            row = row + kid
            moods = moods + (mood,)
        return (row, self._reader.lead(sign, moods), number)

    def ahead(self, worths, tree):
        """What all trees of a tree's size that go ahead of it are worth."""
        kids = kids_of(self._book, tree)
        own = (tree[0], tuple([len(kid) for kid in kids]))
        forms = self.forms(len(tree))
        told = sum([self.share_worth(worths, sign, share, ()) for sign, share in forms[:forms.index(own)]])
        moods = ()
        for kid in kids:
            told = told + self.ahead(self.kid_worths(worths, own[0], own[1], moods), kid)
            moods = moods + (self._reader.mood(kid),)
        return told


def many(reader, size):
    """How many trees with just so many signs a reader likes."""
    if not 1 <= size <= MOST_COUNTED:
        raise NoNumber("trees of 1 to 30 signs are counted")
    return Tally(reader).liked(size)


def tree_at(reader, number):
    """The liked tree of a number, counted from 0 in the order of point 5."""
    if number < 0:
        raise NoNumber("the trees are numbered from 0 on")
    tally = Tally(reader)
    for size in range(1, MOST_COUNTED + 1):
        here = tally.liked(size)
        if number < here:
            return tally.pick(tally.liked_worths, size, number)[0]
        number = number - here
    raise NoNumber("not so many trees of at most 30 signs are liked")


def number_of(reader, tree):
    """The number of a liked tree of at most 30 signs."""
    check_tree(reader.book(), tree)
    if len(tree) > MOST_COUNTED:
        raise NoNumber("only trees of at most 30 signs are numbered")
    if not reader.likes(tree):
        raise NoNumber("only liked trees are numbered")
    tally = Tally(reader)
    return sum([tally.liked(size) for size in range(1, len(tree))]) + tally.ahead(tally.liked_worths, tree)


def leads_of(reader, moods):
    """The list of all tuples of kids' moods, all of these moods, and the mood to which a sign leads from them."""
    book = reader.book()
    return [(kids, reader.lead(sign, kids)) for sign in range(book.many()) for kids in choices(moods, book.kids(sign))]


def lasting(reader):
    """The list of the moods to which parts of liked trees come."""
    leads = leads_of(reader, grown(reader.book(), reader.lead, False).found)
    liked = reader.liked()
    found = {mood: True for _, mood in leads if mood in liked}
    before = -1
    while before < len(found):
        before = len(found)
        for kids, mood in leads:
            if mood in found:
                found.update({kid: True for kid in kids})
    return list(found)


def goes_round(leads, moods):
    """Whether from one of the moods the leads go through kids for ever."""
    reached = list(moods)
    for _ in moods:
        reached = [mood for mood in moods
                   if any([mood == result and kid in reached for kids, result in leads for kid in kids])]
    # Who takes as many steps as there are moods comes to one of them twice.
    return len(reached) > 0


def product_of(numbers):
    """All numbers multiplied."""
    told = 1
    for number in numbers:
        told = told * number
    return told


def all_many(reader):
    """How many trees a reader likes, or None where there is no end of them."""
    moods = lasting(reader)
    leads = [(kids, mood) for kids, mood in leads_of(reader, moods) if mood in moods]
    if goes_round(leads, moods):
        return None
    counts = {mood: 0 for mood in moods}
    # A path has each mood but once, so no tree is higher than there are moods.
    for _ in moods:
        higher = {mood: 0 for mood in moods}
        for kids, mood in leads:
            higher[mood] += product_of([counts[kid] for kid in kids])
        counts = higher
    liked = reader.liked()
    return sum([counts[mood] for mood in moods if mood in liked])


def are_weights(book, weights):
    """Whether a list has a whole number from 0 to 1000 for each sign."""
    return len(weights) == book.many() and all([0 <= weight <= GREATEST_WEIGHT for weight in weights])


def next_cheapest(reader, weights, found):
    """The cheapest tree that comes to a mood not found yet, built on those found, or None.

    It is told as a tuple that compares as the trees do: its cost, its rank, itself,
    and its mood. What is found is a dict of such tuples.
    """
    book = reader.book()
    told = []
    for sign in range(book.many()):
        for kids in choices(list(found), book.kids(sign)):
            mood = reader.lead(sign, kids)
            if mood not in found:
                row = (sign,)
                for kid in kids:
                    row = row + found[kid][2]
                cost = weights[sign] + sum([found[kid][0] for kid in kids])
                told.append((cost, rank(book, row), row, mood))
    return min(told, default=None)


def cheapest(reader, weights):
    """The least cost of a liked tree and the first tree that costs so much, or None."""
    if not are_weights(reader.book(), weights):
        raise NoNumber("weights are a whole number from 0 to 1000 for each sign")
    liked = reader.liked()
    found = {}
    # A sign more never makes a tree cheaper, and its rank is higher: so trees are
    # found by their costs, and of those that cost as much by their order.
    best = next_cheapest(reader, weights, found)
    while best is not None:
        cost, _, row, mood = best
        if mood in liked:
            return (cost, row)
        found[mood] = best
        best = next_cheapest(reader, weights, found)
    return None
