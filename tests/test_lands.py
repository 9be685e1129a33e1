"""Points 26 to 28, and points 1, 2, 9 and 13 where they are about landing."""

import random
import unittest

import slow
import slow_readers
import slow_turners
from given import (BOOK, GREAT, LEAF, NO_TREES, OUTSIDE, TREE, TWO, UNLIKE, HandTest, counting, made, plain_of, rows_of,
                   some_plain, some_rows, some_tree)
from treehands.lands import back, before, lands, shows_lands
from treehands.readers import Reader
from treehands.sets import about, first, least, less, same
from treehands.signs import Book
from treehands.turners import Turner, idle, told_turner, turned

DOUBLE = [[(0,), (2, (0, 0), (0, 0)), (2, (0, 1), (0, 0))]]
# By an odd number of signs g a tree is liked.
ODD = (2, [[0], [1, 0], [0, 1, 1, 0]], [1])
EVERY = (1, [[0], [0], [0]], [0])
NONE = (1, [[0], [0], [0]], [])
FORK = [("a", 0), ("f", 2)]


def landing(signs, goals, rows, source, goal):
    """The slow way's lead to tuples (mood, moods)."""
    read = slow_turners.trees(goals, rows)
    here, there = slow_turners.mood_lead(signs, source), slow_turners.mood_lead(goals, goal)

    def lead(sign, kids):
        moods = slow_turners.led(read, len(rows), there, sign, tuple(kid[1] for kid in kids))
        return (here(sign, tuple(kid[0] for kid in kids)), moods)

    return lead


def shows(signs, goals, rows, source, goal, told):
    """Whether tuples show that a plain turner lands, word by word as point 28 tells it."""
    for mood, moods in told:
        if mood not in range(source[0]) or len(moods) != len(rows):
            return False
        if any(one not in range(goal[0]) for one in moods):
            return False
        if mood in source[2] and moods[0] not in goal[2]:
            return False
    lead = landing(signs, goals, rows, source, goal)
    return all(lead(sign, chosen) in told for sign, (_, kids) in enumerate(signs)
               for chosen in slow.product(told, repeat=kids))


def counters():
    """A turner, a source and a goal, but for what these like, that count how far the first kids of f go.

    By the three states it is turned into trees at whose moods the goal comes to the three
    figures of that number by threes, state 2 the lowest. The source tells whether it is even.
    """
    goals = [("o", 0), ("n", 1), ("c", 2), ("z", 2)]
    # n goes on by one; c goes on with its first kid where its second one is at nought; z: both are at nought.
    carry = [(here + 1) % 3 if there == 0 else here for here in range(3) for there in range(3)]
    both = [0 if here == 0 and there == 0 else 1 for here in range(3) for there in range(3)]
    rows = [[(0,), (2, (0, 0), 3, 1, (1, 0), 1, (2, 0))],
            [(0,), (2, (1, 0), 1, (2, 0))],
            [(0,), (1, (2, 0))]]
    turner = Turner(Book(FORK), Book(goals), rows)
    return (turner, (2, [[0], [1, 1, 0, 0]]), (3, [[0], [1, 2, 0], carry, both]))


def full(height):
    """The full tree of FORK of that height."""
    tree = (0,)
    for _ in range(height):
        tree = (1,) + tree + tree
    return tree


def height_but(height):
    """A turner and a goal: it is turned into a tree that the goal does not like from just the full tree above that height.

    State 1 and 2 have the figures of the height by threes, the lower one first; where the
    two kids' are not the same, they count as nought, so that other trees are greater.
    """
    goals = [("o", 0), ("n", 1), ("e", 2), ("d", 2), ("z", 2)]
    pairs = list(slow.product(range(3), repeat=2))
    equal = [here if here == there else 0 for here, there in pairs]
    carry = [(here + 1) % 3 if there == 2 else here for here, there in pairs]
    wanted = [1 if pair == (height % 3, height // 3) else 0 for pair in pairs]
    low, high = (2, (1, 0), (1, 1)), (2, (2, 0), (2, 1))
    rows = [[(0,), (4,) + low + high], [(0,), (1,) + low], [(0,), (3,) + high + low]]
    return (Turner(Book(FORK), Book(goals), rows), Reader(Book(goals), 3, [[0], [1, 2, 0], equal, carry, wanted], [0, 2]))


class BeforeTest(HandTest):
    def test_known_readers(self):
        double = Turner(BOOK, BOOK, DOUBLE)
        # What comes has no g, so each tree is turned into one of an even number of them.
        self.assertEqual(plain_of(before(double, made(BOOK, ODD))), (1, [[0], [0], [0]], []))
        leaves = Reader(BOOK, 2, [[1], [0, 1], [0, 1, 1, 0]], [1])
        # Odd numbers of leaves: what doubles has an even one.
        self.assertEqual(plain_of(before(double, leaves)), (2, [[0], [1, 1], [1, 0, 0, 1]], [0]))

    def test_idle_turner(self):
        chance = random.Random(101)
        for signs in slow.BOOKS:
            for moods in (1, 2, 3):
                reader = made(Book(signs), some_plain(chance, signs, moods))
                self.assertEqual(plain_of(before(idle(Book(signs)), reader)), plain_of(least(reader)))

    def test_all_trees_and_none(self):
        for rows in (DOUBLE, [[(0,), ((1, 0),), (1, (0, 1))], [(1, 0), (0,), (2, (0, 0), (1, 1))]]):
            turner = Turner(BOOK, BOOK, rows)
            self.assertEqual(plain_of(before(turner, made(BOOK, EVERY))), EVERY)
            self.assertEqual(plain_of(before(turner, made(BOOK, NONE))), NONE)

    def test_first_state_decides(self):
        # By state 0 the leaf stays, by state 1 it is g(a).
        turner = Turner(BOOK, BOOK, [[(0,), ((1, 0),), (0,)], [(1, 0), (1, 0), (1, 0)]])
        told = before(turner, made(BOOK, ODD))
        for row, wanted in ((LEAF, False), ((1, 0), True), ((1, 1, 0), True), ((2, 0, 0), False)):
            self.assertIs(told.likes(row), wanted)

    def holds(self, signs, goals, rows, plain, trees):
        turner, reader = Turner(Book(signs), Book(goals), rows), made(Book(goals), plain)
        told = before(turner, reader)
        read, lead = slow_turners.trees(goals, rows), slow_turners.mood_lead(goals, plain)
        for tree in trees:
            moods = slow_turners.state_of(read, len(rows), lead, tree)
            self.assertIs(told.likes(slow.row(tree)), moods[0] in plain[2])
        self.assertEqual(slow_readers.least(signs, plain_of(told)), plain_of(told))
        self.assertIsInstance(told, Reader)
        self.assertIs(told.book().is_like(Book(signs)), True)
        self.assertEqual(plain_of(before(turner, reader)), plain_of(told))
        self.assertEqual((rows_of(turner), plain_of(reader)), (rows, plain))

    def test_same_as_all_trees_of_few_signs(self):
        chance = random.Random(102)
        for signs, size in zip(slow.BOOKS, (2, 6, 6, 3)):
            trees = slow.grown_to(signs, size)
            for goals in slow.BOOKS:
                for states, moods in ((1, 1), (1, 3), (2, 2), (3, 2), (3, 3)):
                    if states * moods < 9 or len(signs) < 6:
                        self.holds(signs, goals, some_rows(chance, signs, goals, states, 6),
                                   some_plain(chance, goals, moods), trees)

    def test_same_as_what_is_turned_and_read(self):
        chance = random.Random(103)
        for signs, size in zip(slow.BOOKS[1:], (5, 5, 3)):
            rows, plain = some_rows(chance, signs, signs, 2, 3), some_plain(chance, signs, 3)
            turner, reader = Turner(Book(signs), Book(signs), rows), made(Book(signs), plain)
            told = before(turner, reader)
            for tree in slow.grown_to(signs, size):
                row = turned(turner, slow.row(tree))
                if len(row) <= 40:
                    self.assertIs(told.likes(slow.row(tree)), reader.likes(row))

    def test_trees_of_up_to_40_signs(self):
        chance = random.Random(104)
        for signs in (slow.BOOKS[1], slow.BOOKS[3]):
            trees = [some_tree(chance, signs, size) for size in (10, 20, 25, 30, 35, 38, 39, 40, 40, 40)]
            for goals in slow.BOOKS[1:]:
                self.holds(signs, goals, some_rows(chance, signs, goals, 2, 4), some_plain(chance, goals, 3), trees)

    def test_27_moods(self):
        turner, source, goal = counters()
        told = before(turner, made(turner.goals(), goal + ([0],)))
        self.assertEqual(told.moods(), 27)
        self.assertEqual(slow_readers.least(FORK, plain_of(told)), plain_of(told))

    def test_unlike(self):
        turner = Turner(BOOK, TWO, [[(1,), (2,), (1,)]])
        self.refused("Unlike", before, turner, made(BOOK, EVERY))
        self.assertEqual(plain_of(before(turner, made(TWO, EVERY))), EVERY)
        for signs in UNLIKE:
            reader = made(Book(signs), (1, [[0] for _ in signs], [0]))
            self.refused("Unlike", before, idle(BOOK), reader)
            self.refused("Unlike", before, idle(Book(signs)), made(BOOK, EVERY))


class BackTest(HandTest):
    def test_known_trees(self):
        double = Turner(BOOK, BOOK, DOUBLE)
        self.assertEqual(back(double, LEAF), LEAF)
        self.assertEqual(back(double, (2, 0, 0)), (1, 0))
        self.assertEqual(back(double, (2, 0, 2, 0, 0)), (2, 1, 0, 0))
        self.assertEqual(back(double, (2, 2, 0, 0, 0)), (2, 0, 1, 0))
        self.assertIsNone(back(double, (1, 0)))
        self.assertIsNone(back(double, (1, 2, 0, 0)))

    def test_idle_turner(self):
        for signs, size in zip(slow.BOOKS, (5, 5, 5, 3)):
            for tree in slow.grown_to(signs, size):
                self.assertEqual(back(idle(Book(signs)), slow.row(tree)), slow.row(tree))

    def test_tree_that_goes_ahead_of_all_others(self):
        # All trees of g and f are turned into a leaf, b goes ahead of them, a is another tree.
        signs = [("g", 1), ("f", 2), ("a", 0), ("b", 0)]
        book = Book(signs)
        turner = Turner(book, book, [[(3,), (3,), (2,), (3,)]])
        self.assertEqual(back(turner, (3,)), (3,))
        self.assertEqual(back(turner, (2,)), (2,))
        turner = Turner(book, book, [[(3,), (3,), (2,), (2,)]])
        self.assertEqual(back(turner, (3,)), (0, 2))
        turner = Turner(book, book, [[((0, 0),), (3,), (2,), (2,)]])
        self.assertEqual(back(turner, (3,)), (1, 2, 2))

    def test_each_kid_is_told_by_several_states(self):
        # f(x,y) is turned into f of x by state 1 and y by state 2: only g(a) by state 1 is g(a) there.
        turner = Turner(BOOK, BOOK, [[(0,), (1, (0, 0)), (2, (1, 0), (2, 1))],
                                     [(0,), (0,), (1, (0, 1))],
                                     [(1, 0), (0,), (0,)]])
        self.assertEqual(back(turner, (2, 0, 0)), (2, 0, 1, 0))
        self.assertEqual(back(turner, (2, 0, 1, 0)), (2, 0, 0))
        self.assertEqual(back(turner, (2, 1, 0, 0)), (2, 2, 0, 0, 1, 0))
        self.assertIsNone(back(turner, (2, 0, 2, 0, 0)))

    def test_same_as_the_slow_way(self):
        chance = random.Random(105)
        found = {True: 0, False: 0}
        for signs in slow.BOOKS:
            for goals, size in zip(slow.BOOKS[1:], (5, 5, 3)):
                targets = slow.grown_to(goals, size)
                for states, most in ((1, 3), (2, 3), (2, 5)):
                    rows = some_rows(chance, signs, goals, states, most)
                    for target in chance.sample(targets, 4):
                        told = back(Turner(Book(signs), Book(goals), rows), slow.row(target))
                        self.assertEqual(told, self.wanted(signs, goals, rows, target))
                        found[told is None] += 1
        self.assertGreater(min(found.values()), 10)

    def wanted(self, signs, goals, rows, target):
        read = slow_turners.trees(goals, rows)
        parts = [slow.at(target, place) for place in slow.places(target)]

        def lead(sign, kids):
            tree = (sign,) + kids
            return tree if tree in parts else "none"

        best = slow_turners.best(signs, lambda sign, kids: slow_turners.led(read, len(rows), lead, sign, kids))
        trees = [tree for state, tree in best.items() if state[0] == target]
        return slow_readers.best_row(min(trees)) if trees else None

    def test_same_as_all_small_trees_turned(self):
        chance = random.Random(106)
        for signs, size in zip(slow.BOOKS[1:], (6, 7, 4)):
            trees = slow.grown_to(signs, size)
            for _ in range(6):
                turner = Turner(Book(signs), Book(signs), some_rows(chance, signs, signs, 2, 3))
                firsts = {}
                for tree in trees:
                    row = turned(turner, slow.row(tree))
                    if row not in firsts or slow.ahead(tree, firsts[row]) < 0:
                        firsts[row] = tree
                for row, tree in firsts.items():
                    if len(row) <= 5:
                        self.assertEqual(back(turner, row), slow.row(tree))

    def test_trees_of_one_to_five_signs_only(self):
        turner = idle(BOOK)
        for size in range(1, 6):
            row = (1,) * (size - 1) + (0,)
            self.assertEqual(back(turner, row), row)
        for row in ((1,) * 5 + (0,), (1,) * 39 + (0,), (2, 1, 0, 2, 0, 0), (2, 0) * 3 + (0,), (1, 2, 1, 0, 1, 0)):
            self.refused("NoTree", back, turner, row)

    def test_no_trees(self):
        for wrong in NO_TREES:
            self.refused("NoTree", back, idle(BOOK), wrong)
            self.refused("NoTree", back, Turner(TWO, BOOK, [[(0,), (0,), (0,)]]), wrong)
        # The tree is one of the goal book, not of the book.
        turner = Turner(BOOK, TWO, [[(1,), (0, (0, 0), 2), (2,)]])
        self.assertEqual(back(turner, (0, 1, 2)), (1, 0))
        self.refused("NoTree", back, turner, (1, 0))

    def test_200_and_201_signs(self):
        # Turners of three states call for no tree so great, so these are told ones of more states.
        signs = [("a", 0), ("b", 0), ("g", 1)]
        book = Book(signs)
        for states in (3, 199, 200):
            rows = [[(1,), (1,), ((state + 1, 0),)] for state in range(states)] + [[(0,), (1,), (1,)]]
            if states < 200:
                self.assertEqual(back(told_turner(book, book, rows), (0,)), (2,) * states + (0,))
            else:
                self.refused("TooGreat", back, told_turner(book, book, rows), (0,))

    def test_turner_stays_and_all_is_told_again(self):
        turner = Turner(BOOK, BOOK, DOUBLE)
        told = [back(turner, row) for row in (LEAF, (2, 0, 0), (1, 0))]
        self.assertEqual([back(turner, row) for row in (LEAF, (2, 0, 0), (1, 0))], told)
        self.assertEqual(rows_of(turner), DOUBLE)


class LandsTest(HandTest):
    def test_known_papers(self):
        double = Turner(BOOK, BOOK, DOUBLE)
        odd = made(BOOK, ODD)
        self.assertEqual(lands(double, odd, odd), ("not", (1, 0)))
        self.assertEqual(lands(double, odd, made(BOOK, EVERY)), ("always", [(0, (0,)), (1, (0,))]))
        self.assertEqual(lands(double, odd, about(odd)), ("always", [(0, (0,)), (1, (0,))]))
        self.assertEqual(lands(double, made(BOOK, NONE), made(BOOK, NONE)), ("always", [(0, (0,))]))
        self.assertEqual(lands(double, made(BOOK, EVERY), made(BOOK, NONE)), ("not", LEAF))

    def test_rows_rise_and_have_a_mood_for_each_state(self):
        turner = Turner(BOOK, BOOK, [[(0,), ((1, 0),), (0,)], [(1, 0), ((0, 0),), (1, (0, 1))]])
        source = Reader(BOOK, 3, [[2], [1, 0, 0], [1] * 9], [])
        paper = lands(turner, source, made(BOOK, ODD))
        # a: 2, 0 and 1. g of it: 0, 1 and 0; by turns on. f of a kid of 1 by state 0: 1, 0 and 0; g of that: 0, 0 and 0.
        self.assertEqual(paper, ("always", [(0, (0, 0)), (0, (1, 0)), (1, (0, 0)), (1, (0, 1)), (2, (0, 1))]))

    def test_the_tree_goes_ahead_of_all_others(self):
        odd = made(BOOK, ODD)
        # Liked are odd trees; each g is left out, so what comes is never odd: g(a) is the first that does not land.
        turner = Turner(BOOK, BOOK, [[(0,), ((0, 0),), (2, (0, 0), (0, 1))]])
        self.assertEqual(lands(turner, odd, odd), ("not", (1, 0)))
        self.assertEqual(lands(turner, less(odd, Reader(BOOK, 2, [[0], [0, 1], [1, 1, 1, 1]], [0])), odd),
                         ("not", (1, 2, 0, 0)))
        # The source does not like the leaf, the goal does not like what comes of it: it lands all the same.
        self.assertEqual(lands(idle(BOOK), odd, odd)[0], "always")

    def test_idle_turner_lands_where_nothing_is_less(self):
        chance = random.Random(111)
        kinds = {"always": 0, "not": 0}
        for signs in slow.BOOKS:
            for _ in range(20):
                one = made(Book(signs), some_plain(chance, signs, chance.randrange(1, 4)))
                other = made(Book(signs), some_plain(chance, signs, chance.randrange(1, 4)))
                paper = lands(idle(Book(signs)), one, other)
                kinds[paper[0]] += 1
                tree = first(less(one, other))
                if tree is None:
                    pairs = same(one, Reader(Book(signs), other.moods(), plain_of(other)[1], []))
                    self.assertEqual(paper[0], "always")
                    if pairs[0] == "alike":
                        self.assertEqual(paper[1], [(here, (there,)) for here, there in pairs[1]])
                else:
                    self.assertEqual(paper, ("not", tree))
        self.assertGreater(min(kinds.values()), 10)

    def test_same_as_the_slow_way(self):
        chance = random.Random(112)
        kinds = {"always": 0, "not": 0}
        for signs in slow.BOOKS:
            for goals in slow.BOOKS:
                for states, one_moods, other_moods in ((1, 3, 3), (2, 2, 2), (2, 3, 1), (3, 1, 2)):
                    rows = some_rows(chance, signs, goals, states, 5)
                    source = some_plain(chance, signs, one_moods)[:2] + (chance.choice([[], [0], [0]]),)
                    goal = some_plain(chance, goals, other_moods)
                    turner = Turner(Book(signs), Book(goals), rows)
                    here, there = made(Book(signs), source), made(Book(goals), goal)
                    best = slow_turners.best(signs, landing(signs, goals, rows, source, goal))
                    wrong = [tree for (mood, moods), tree in best.items()
                             if mood in source[2] and moods[0] not in goal[2]]
                    paper = lands(turner, here, there)
                    kinds[paper[0]] += 1
                    if wrong:
                        self.assertEqual(paper, ("not", slow_readers.best_row(min(wrong))))
                    else:
                        self.assertEqual(paper, ("always", sorted(best)))
                        self.assertIs(shows_lands(turner, here, there, paper[1]), True)
        self.assertGreater(min(kinds.values()), 10)

    def test_same_as_all_small_trees_turned(self):
        chance = random.Random(113)
        for signs, size in zip(slow.BOOKS[1:], (5, 5, 3)):
            trees = slow.grown_to(signs, size)
            for _ in range(8):
                turner = Turner(Book(signs), Book(signs), some_rows(chance, signs, signs, 2, 3))
                source, goal = [made(Book(signs), some_plain(chance, signs, 2)) for _ in range(2)]
                paper = lands(turner, source, goal)
                wrong = None
                for tree in trees:
                    row = slow.row(tree)
                    come = turned(turner, row)
                    if source.likes(row) and len(come) <= 40 and not goal.likes(come):
                        if wrong is None or slow.ahead(tree, wrong) < 0:
                            wrong = tree
                if wrong is not None:
                    self.assertEqual(paper[0], "not")
                    self.assertLessEqual(len(paper[1]), len(slow.row(wrong)))
                elif paper[0] == "not":
                    self.assertGreaterEqual(len(turned(turner, paper[1])), 1)

    def test_great_trees(self):
        every = Reader(Book(FORK), 1, [[0], [0]], [0])
        mixed = Reader(Book(FORK), 3, [[2], [1, 2, 1, 0, 1, 0, 2, 2, 1]], [0, 1, 2])
        for source in (every, mixed):
            for height in range(6):
                turner, goal = height_but(height)
                self.assertEqual(lands(turner, source, goal), ("not", full(height + 1)))
                self.assertIs(before(turner, goal).likes(full(3)), height != 2)
            self.assertEqual(len(full(6)), 127)

    def test_more_than_200_signs(self):
        every = Reader(Book(FORK), 1, [[0], [0]], [0])
        none = Reader(Book(FORK), 1, [[0], [0]], [])
        for height in (6, 7, 8):
            turner, goal = height_but(height)
            self.assertGreater(len(full(height + 1)), 200)
            self.refused("TooGreat", lands, turner, every, goal)
            self.assertEqual(lands(turner, none, goal)[0], "always")
            self.assertIs(shows_lands(turner, every, goal, lands(turner, none, goal)[1]), False)

    def test_many_rows(self):
        turner, source, goal = counters()
        paper = lands(turner, made(Book(FORK), source + ([],)), made(turner.goals(), goal + ([],)))
        self.assertEqual(paper, ("always", [(mood, moods) for mood in range(2)
                                            for moods in slow.product(range(3), repeat=3)]))

    def test_paper_is_the_askers_own(self):
        turner = Turner(BOOK, BOOK, DOUBLE)
        odd = made(BOOK, ODD)
        paper = lands(turner, odd, made(BOOK, EVERY))
        paper[1].clear()
        paper[1].append((5, (5,)))
        self.assertEqual(lands(turner, odd, made(BOOK, EVERY)), ("always", [(0, (0,)), (1, (0,))]))
        self.assertEqual((rows_of(turner), plain_of(odd)), (DOUBLE, ODD))

    def test_unlike(self):
        for signs in UNLIKE:
            every = made(Book(signs), (1, [[0] for _ in signs], [0]))
            leaf = [sign for sign, told in enumerate(signs) if told[1] == 0][0]
            for turner, source, goal in (
                    (idle(BOOK), every, made(BOOK, EVERY)), (idle(BOOK), made(BOOK, EVERY), every),
                    (idle(BOOK), every, every), (idle(Book(signs)), made(BOOK, EVERY), made(BOOK, EVERY)),
                    (Turner(BOOK, Book(signs), [[(leaf,)] * 3]), made(BOOK, EVERY), made(BOOK, EVERY)),
                    (Turner(Book(signs), BOOK, [[(0,)] * len(signs)]), made(BOOK, EVERY), made(BOOK, EVERY))):
                self.refused("Unlike", lands, turner, source, goal)
                for rows in ([], [(0, (0,))], [(-1, (9, 9))], [(GREAT, ())]):
                    self.refused("Unlike", shows_lands, turner, source, goal, rows)
        turner = Turner(BOOK, TWO, [[(1,), (2,), (1,)]])
        self.assertEqual(lands(turner, made(BOOK, EVERY), made(TWO, EVERY))[0], "always")
        self.refused("Unlike", lands, turner, made(TWO, EVERY), made(BOOK, EVERY))


class ShowsTest(HandTest):
    def setUp(self):
        self.turner = Turner(BOOK, BOOK, [[(0,), ((1, 0),), (2, (0, 0), (0, 1))], [(0,), ((0, 0),), (1, (0, 1))]])
        self.source = Reader(BOOK, 2, [[0], [0, 0], [1, 0, 1, 0]], [0])
        self.goal = Reader(BOOK, 3, [[0], [1, 2, 0], [0, 1, 2, 1, 2, 0, 2, 0, 1]], [0, 1, 2])
        self.rows = lands(self.turner, self.source, self.goal)[1]

    def shows(self, rows):
        before = list(rows)
        told = shows_lands(self.turner, self.source, self.goal, rows)
        self.assertEqual(rows, before)
        self.assertIs(told, shows(slow.BOOKS[1], slow.BOOKS[1], rows_of(self.turner), plain_of(self.source),
                                  plain_of(self.goal), rows))
        return told

    def test_told_rows(self):
        self.assertGreater(len(self.rows), 5)
        self.assertIs(self.shows(self.rows), True)

    def test_one_left_out(self):
        for place in range(len(self.rows)):
            self.assertIs(self.shows(self.rows[:place] + self.rows[place + 1:]), False)

    def test_another_order_and_a_tuple_twice(self):
        chance = random.Random(121)
        for _ in range(5):
            rows = list(self.rows)
            chance.shuffle(rows)
            self.assertIs(self.shows(rows), True)
            self.assertIs(self.shows(rows + rows[:3]), True)
            self.assertIs(self.shows(rows * 3), True)
        self.assertIs(self.shows(self.rows[::-1]), True)

    def test_one_put_in(self):
        told = 0
        for mood in range(2):
            for moods in slow.product(range(3), repeat=2):
                told += self.shows(self.rows + [(mood, moods)])
        self.assertGreater(told, 0)
        # All tuples there are show it, for nothing leads to another one.
        every = [(mood, moods) for mood in range(2) for moods in slow.product(range(3), repeat=2)]
        self.assertIs(self.shows(every), True)

    def test_one_mood_otherwise(self):
        for place, (mood, moods) in enumerate(self.rows):
            for other in (-1, 2, 3) + OUTSIDE:
                rows = list(self.rows)
                rows[place] = (other, moods)
                self.assertIs(self.shows(rows), False)
            for wrong in (-1, 3, 4) + OUTSIDE:
                for number in range(2):
                    told = list(moods)
                    told[number] = wrong
                    rows = list(self.rows)
                    rows[place] = (mood, tuple(told))
                    self.assertIs(self.shows(rows), False)
                    self.assertIs(self.shows(self.rows + [(mood, tuple(told))]), False)
            for other in range(2):
                for chosen in slow.product(range(3), repeat=2):
                    rows = list(self.rows)
                    rows[place] = (other, chosen)
                    self.shows(rows)

    def test_moods_too_few_or_too_many(self):
        for place, (mood, moods) in enumerate(self.rows):
            for told in ((), moods[:1], moods + (0,), moods * 2, moods + moods[:1]):
                rows = list(self.rows)
                rows[place] = (mood, told)
                self.assertIs(self.shows(rows), False)
                self.assertIs(self.shows(self.rows + [(mood, told)]), False)

    def test_moods_out_of_bounds_to_which_nothing_leads_on(self):
        # All is turned into a leaf and the source has one mood: whatever is in the list, it stays closed.
        turner = Turner(BOOK, BOOK, [[(0,), (0,), (0,)]])
        source, goal = made(BOOK, NONE), made(BOOK, (2, [[0], [0, 0], [0] * 4], [0]))
        self.assertIs(shows_lands(turner, source, goal, [(0, (0,))]), True)
        self.assertIs(shows_lands(turner, source, goal, [(0, (0,)), (0, (1,))]), True)
        for mood in (-1, 2, 3) + OUTSIDE:
            self.assertIs(shows_lands(turner, source, goal, [(0, (0,)), (0, (mood,))]), False)
            self.assertIs(shows_lands(turner, source, goal, [(0, (mood,)), (0, (0,))]), False)
        for mood in (-1, 1, 2) + OUTSIDE:
            self.assertIs(shows_lands(turner, source, goal, [(0, (0,)), (mood, (0,))]), False)
        for moods in ((), (0, 0), (0, 1), (0,) * 100):
            self.assertIs(shows_lands(turner, source, goal, [(0, (0,)), (0, moods)]), False)

    def test_empty_list(self):
        self.assertIs(self.shows([]), False)

    def test_a_liked_mood_that_does_not_land(self):
        # The rows are closed, but the goal likes less.
        goal = Reader(BOOK, 3, plain_of(self.goal)[1], [0, 1])
        self.assertIs(shows_lands(self.turner, self.source, goal, self.rows), False)
        none = Reader(BOOK, 2, plain_of(self.source)[1], [])
        self.assertIs(shows_lands(self.turner, none, goal, self.rows), True)
        # Only the first of the moods has to be liked.
        self.goal = Reader(BOOK, 3, plain_of(self.goal)[1], [0])
        turner = Turner(BOOK, BOOK, [[(0,), (0,), (0,)], [(0,), (1, (1, 0)), (1, (1, 0))]])
        rows = lands(turner, self.source, self.goal)
        self.assertEqual(rows[0], "always")
        self.assertIs(shows_lands(turner, self.source, self.goal, rows[1]), True)

    def test_same_as_the_slow_way(self):
        chance = random.Random(122)
        signs, goals = [("a", 0), ("g", 1)], [("b", 0), ("h", 1)]
        for _ in range(6):
            rows = some_rows(chance, signs, goals, 1, 3)
            source, goal = some_plain(chance, signs, 2), some_plain(chance, goals, 2)
            turner = Turner(Book(signs), Book(goals), rows)
            here, there = made(Book(signs), source), made(Book(goals), goal)
            every = [(mood, (other,)) for mood in range(2) for other in range(2)]
            for chosen in slow.product((False, True), repeat=4):
                told = [row for row, is_in in zip(every, chosen) if is_in]
                wanted = shows(signs, goals, rows, source, goal, told)
                self.assertIs(shows_lands(turner, here, there, told), wanted)
                if wanted:
                    self.assertEqual(lands(turner, here, there)[0], "always")

    def test_told_rows_of_many_states(self):
        turner, source, goal = counters()
        here, there = made(Book(FORK), source + ([],)), made(turner.goals(), goal + ([],))
        rows = lands(turner, here, there)[1]
        self.assertIs(shows_lands(turner, here, there, rows), True)
        self.assertIs(shows_lands(turner, here, there, rows[1:]), False)
        self.assertIs(shows_lands(turner, here, there, rows[:-1]), False)

    def test_source_of_counted_signs(self):
        turner = idle(BOOK)
        three = made(BOOK, counting(slow.BOOKS[1], 1, 3, [0]))
        paper = lands(turner, three, three)
        self.assertEqual(paper, ("always", [(0, (0,)), (1, (1,)), (2, (2,))]))
        self.assertIs(shows_lands(turner, three, three, paper[1]), True)
        self.assertIs(shows_lands(turner, three, three, paper[1] + [(1, (2,))]), False)
        self.assertIs(three.likes(TREE), False)


if __name__ == "__main__":
    unittest.main()
