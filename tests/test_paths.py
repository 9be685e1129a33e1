"""Points 20 and 21, and points 1, 9 and 13 where they are about paths."""

import random
import unittest

import slow
import slow_readers
import slow_sets
from given import BOOK, HandTest, made, plain_of, some_plain, some_tree
from treehands.patterns import fitting, holding
from treehands.paths import beside, shut
from treehands.readers import Reader, told_reader
from treehands.sets import less, met, same
from treehands.signs import Book

FORK = [("a", 0), ("b", 0), ("f", 2)]
FORKS = [("a", 0), ("f", 2), ("h", 2)]


def full(height, sign):
    """The tree of that height all of whose signs but the leaves are the one."""
    tree = (0,)
    for _ in range(height):
        tree = (sign,) + tree + tree
    return tree


def all_but_both(height):
    """A reader of FORKS that likes f(x,y) where x and y are a leaf or the full tree of h of that height, not both high.

    It has a mood for each height, one for the liked trees, and the last one for all others.
    """
    moods = height + 3
    dead, liked = height + 2, height + 1
    of_h = [here + 1 if here == there < height else dead for here in range(moods) for there in range(moods)]
    of_f = [dead] * (moods * moods)
    of_f[0] = of_f[height] = of_f[height * moods] = liked
    return told_reader(Book(FORKS), moods, [[0], of_f, of_h], [liked])


class ShutTest(HandTest):
    def test_leaves_of_several_trees(self):
        # f(a,b) and f(b,a): by their paths are f(a,a) and f(b,b), too.
        reader = Reader(Book(FORK), 4, [[0], [1], [3, 2, 3, 3, 2] + [3] * 11], [2])
        told = shut(reader)
        for row, wanted in (((2, 0, 1), True), ((2, 1, 0), True), ((2, 0, 0), True), ((2, 1, 1), True),
                            ((0,), False), ((1,), False), ((2, 2, 0, 1, 0), False), ((2, 0, 2, 0, 1), False)):
            self.assertIs(told.likes(row), wanted)
        self.assertEqual(plain_of(told), (3, [[0], [0], [1, 2, 2, 2, 2, 2, 2, 2, 2]], [1]))
        self.assertEqual(beside(reader), (2, 0, 0))

    def test_the_number_of_the_kid_is_on_the_path(self):
        # Of f(a,b) alone a stands as the first and b as the second kid.
        reader = fitting(Book(FORK), (2, 0, 1))
        self.assertEqual(same(shut(reader), reader)[0], "alike")
        self.assertIsNone(beside(reader))

    def test_signs_of_a_path_need_not_end_alike(self):
        # All trees of f and a in which a b stands: each path of a tree of f and a is one of those.
        reader = holding(Book(FORK), (1,))
        told = shut(reader)
        self.assertEqual(plain_of(told), (2, [[0], [1], [1, 1, 1, 1]], [1]))
        self.assertEqual(beside(reader), (2, 0, 0))

    def test_sets_that_are_their_own_shut_sets(self):
        for pattern in ((-1,), (0,), (1, -1), (2, -1, 0), (2, 1, -1, 0), (1, 2, 0, -1)):
            reader = fitting(BOOK, pattern)
            if reader.moods() <= 3:
                self.assertEqual(plain_of(shut(reader)), plain_of(reader))
                self.assertIsNone(beside(reader))
        # Paths alone are told by their one path.
        chance = random.Random(71)
        signs = [("a", 0), ("g", 1), ("h", 1), ("b", 0)]
        for _ in range(20):
            reader = made(Book(signs), some_plain(chance, signs, 3))
            self.assertEqual(same(shut(reader), reader)[0], "alike")
            self.assertIsNone(beside(reader))

    def test_empty_set_and_all_trees(self):
        for signs in slow.BOOKS:
            tables = [[0] for _ in signs]
            self.assertEqual(plain_of(shut(made(Book(signs), (1, tables, [])))), (1, tables, []))
            self.assertEqual(plain_of(shut(made(Book(signs), (1, tables, [0])))), (1, tables, [0]))
            self.assertIsNone(beside(made(Book(signs), (1, tables, []))))
            self.assertIsNone(beside(made(Book(signs), (1, tables, [0]))))
        # The liked mood is not met.
        self.assertEqual(shut(Reader(BOOK, 2, [[0], [0, 1], [0, 1, 1, 1]], [1])).liked(), [])

    def test_kid_beside_the_path_has_to_be_some_tree(self):
        # f of mood 0 and of a mood that is not met is liked: no path goes through it.
        reader = Reader(BOOK, 2, [[0], [0, 1], [0, 1, 0, 1]], [1])
        self.assertEqual(plain_of(shut(reader)), (1, [[0], [0], [0]], []))
        reader = Reader(BOOK, 3, [[0], [1, 1, 2], [1, 1, 0, 1, 1, 0, 0, 0, 2]], [0])
        self.assertEqual(plain_of(shut(reader)), (2, [[0], [1, 1], [1, 1, 1, 1]], [0]))

    def test_same_as_all_trees_path_by_path(self):
        chance = random.Random(72)
        for signs, size in zip(slow.BOOKS + (FORK, FORKS), (2, 7, 9, 4, 9, 7)):
            trees = slow_sets.in_order(slow.grown_to(signs, size))
            for moods in (1, 2, 2, 3, 3, 3, 3):
                plain = some_plain(chance, signs, moods)
                reader = made(Book(signs), plain)
                told = shut(reader)
                wanted = slow_sets.by_paths(signs, plain, trees)
                self.assertEqual([tree for tree in trees if told.likes(slow.row(tree))], wanted)
                self.assertEqual(slow_readers.least(signs, plain_of(told)), plain_of(told))
                self.assertIsInstance(told, Reader)
                self.assertEqual(plain_of(shut(reader)), plain_of(told))
                self.holds_beside(signs, plain, reader, told, wanted, size)

    def holds_beside(self, signs, plain, reader, told, wanted, size):
        parts = [slow.row(tree) for tree in wanted if not slow_sets.likes(signs, plain, tree)]
        row = beside(reader)
        if parts:
            self.assertEqual(row, parts[0])
        elif row is None:
            self.assertEqual(same(told, reader)[0], "alike")
        else:
            self.assertGreater(len(row), size)
        found = slow_readers.best(slow_readers.pair_leads(signs, plain_of(told), plain))
        trees = [tree for (here, there), tree in found.items() if here in told.liked() and there not in plain[2]]
        self.assertEqual(row, slow_readers.best_row(min(trees)) if trees else None)

    def test_paths_of_the_small_trees_of_a_set(self):
        # Straight by the liked trees themselves, without asking whether a path is one of them.
        chance = random.Random(73)
        for signs, size in ((FORK, 9), (FORKS, 7), (slow.BOOKS[1], 7)):
            trees = slow.grown_to(signs, size)
            for _ in range(12):
                plain = some_plain(chance, signs, 3)
                told = shut(made(Book(signs), plain))
                known = {}
                for tree in slow_sets.liked(signs, plain, trees):
                    self.assertIs(told.likes(slow.row(tree)), True)
                    known.update((path, True) for path in slow_sets.paths(tree))
                for tree in trees:
                    if all(path in known for path in slow_sets.paths(tree)):
                        self.assertIs(told.likes(slow.row(tree)), True)

    def test_trees_of_40_signs(self):
        chance = random.Random(74)
        for signs in (slow.BOOKS[1], slow.BOOKS[3]):
            for _ in range(6):
                plain = some_plain(chance, signs, 3)
                trees = [some_tree(chance, signs, size) for size in (20, 30, 39, 40, 40)]
                told = shut(made(Book(signs), plain))
                wanted = slow_sets.by_paths(signs, plain, trees)
                self.assertEqual([tree for tree in trees if told.likes(slow.row(tree))], wanted)

    def test_two_signs_of_two_kids_and_three_moods(self):
        for tables, liked, size in (
                ([[0], [1, 1, 1, 1, 2, 2, 1, 2, 1], [1, 1, 2, 1, 1, 2, 1, 1, 0]], [0], 23),
                ([[0], [1, 1, 1, 1, 1, 1, 2, 1, 0], [1, 1, 1, 1, 2, 2, 1, 2, 2]], [0], 27),
                ([[0], [1, 1, 1, 1, 1, 1, 1, 1, 2], [0, 0, 0, 0, 2, 2, 0, 0, 0]], [0, 2], 27)):
            reader = Reader(Book(FORKS), 3, tables, liked)
            row = beside(reader)
            self.assertEqual(len(row), size)
            self.assertIs(shut(reader).likes(row), True)
            self.assertIs(reader.likes(row), False)
            self.holds_beside(FORKS, (3, tables, liked), reader, shut(reader), [], size - 1)

    def test_shut_twice_is_shut_once(self):
        chance = random.Random(75)
        for signs in (FORK, FORKS, slow.BOOKS[1]):
            for _ in range(15):
                reader = made(Book(signs), some_plain(chance, signs, 2))
                once = shut(reader)
                if once.moods() <= 3:
                    self.assertEqual(plain_of(shut(once)), plain_of(once))
                    self.assertIsNone(beside(once))
                    self.assertEqual(less(reader, once).liked(), [])

    def test_reader_stays_and_told_readers_stand_alone(self):
        plain = some_plain(random.Random(76), FORKS, 3)
        reader = made(Book(FORKS), plain)
        told = shut(reader)
        before = plain_of(told)
        beside(reader)
        told.table(1).clear()
        told.liked().append(7)
        self.assertEqual(plain_of(told), before)
        self.assertEqual(plain_of(shut(reader)), before)
        self.assertEqual(plain_of(reader), plain)


class BesideTest(HandTest):
    def test_none_just_where_the_shut_set_is_the_set(self):
        chance = random.Random(77)
        numbers = {True: 0, False: 0}
        for signs in slow.BOOKS[1:] + (FORK, FORKS):
            for _ in range(25):
                reader = made(Book(signs), some_plain(chance, signs, chance.randrange(1, 4)))
                own = same(shut(reader), reader)[0] == "alike"
                self.assertIs(beside(reader) is None, own)
                numbers[own] += 1
        self.assertGreater(min(numbers.values()), 10)

    def test_great_trees(self):
        for height in (1, 2, 3, 5, 6):
            reader = all_but_both(height)
            tree = (1,) + full(height, 2) * 2
            if len(tree) <= 200:
                self.assertEqual(beside(reader), tree)
        self.assertEqual(len(beside(all_but_both(5))), 127)

    def test_more_than_200_signs(self):
        # Nobody knows readers of three moods for this, so these have more.
        self.refused("TooGreat", beside, all_but_both(6))
        self.refused("TooGreat", beside, all_but_both(7))
        self.refused("TooGreat", beside, all_but_both(12))
        # Its shut set is told all the same.
        self.assertIs(shut(all_but_both(6)).likes((1, 0, 0)), True)

    def test_readers_of_the_test_are_readers_of_the_point(self):
        # The reader of height 3 has six moods, so all of point 10 may be asked of it.
        reader = all_but_both(3)
        self.assertEqual(reader.moods(), 6)
        high = full(3, 2)
        self.assertIs(reader.likes((1, 0, 0)), True)
        self.assertIs(reader.likes((1, 0) + high), True)
        self.assertIs(reader.likes((1,) + high + (0,)), True)
        self.assertIs(reader.likes((1,) + high + high), False)
        self.assertIs(shut(reader).likes((1,) + high + high), True)
        self.assertEqual(met(shut(reader), reader).moods(), 6)


if __name__ == "__main__":
    unittest.main()
