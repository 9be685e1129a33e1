"""Point 16, and points 1, 2, 4 and 9 where they are about patterns."""

import random
import unittest

import slow
import slow_readers
import slow_sets
from given import BOOK, COMB, GREAT, LEAF, NO_TREES, PATH, TREE, TWO, HandTest, made, plain_of, some_tree
from treehands.patterns import fits, fitting, holding, is_pattern
from treehands.readers import Reader
from treehands.sets import about, less, met, same
from treehands.signs import Book

PATTERNS = (
    (-1,), (0,), (1, -1), (1, 0), (1, 1, -1), (2, -1, -1), (2, -1, 0), (2, 0, -1), (2, 0, 0), (2, 1, -1, -1),
    (2, -1, 1, -1), (2, 1, 0, 0), (1, 2, -1, 0), (2, 2, -1, -1, -1), (2, -1, 2, -1, -1), (2, 2, 0, 0, 0),
    (1, 1, 1, 1, 1, -1), (1, 1, 1, 1, 1, 0), (2, 1, -1, 2, -1, 0), (1, 2, 2, 0, -1, 0), (2, 2, -1, 1, 0, -1),
)
NO_PATTERNS = (
    (), (1,), (2,), (2, -1), (2, 0), (1, 1), (2, 1, -1), (2, 2, -1, -1), (-1, -1), (-1, 0), (0, -1), (0, 0),
    (1, -1, -1), (1, 0, -1), (2, -1, -1, -1), (2, 0, 0, 0), (-1, 2, -1, -1), (2, -1, 0, 1),
    (-2,), (3,), (1, -2), (1, 3), (2, -1, -2), (2, -2, -1), (2, 3, -1), (-3,), (-4,), (4,),
    (GREAT,), (-GREAT,), (1, GREAT), (2, -1, -GREAT), (10 ** 30 - 1,), (2, -1, 10 ** 30 - 1),
    (1,) * 6 + (-1,), (1,) * 6 + (0,), (2, -1) * 3 + (-1,), (2, 0) * 3 + (0,), (-1,) * 7, (0,) * 7, (1,) * 99 + (-1,),
)
# What is put in and exchanged: signs, what stands for any tree, and what is neither.
NUMBERS = (-2, -1, 0, 1, 2, 3)


def patterns_to(signs, size):
    """All patterns of at most so many numbers."""
    numbers = range(-1, len(signs))
    return [told for many in range(1, size + 1) for told in slow.product(numbers, repeat=many)
            if slow_sets.is_pattern(signs, told)]


class IsPatternTest(HandTest):
    def test_patterns(self):
        for pattern in PATTERNS:
            self.assertIs(is_pattern(BOOK, pattern), True)
        self.assertIs(is_pattern(TWO, (0, -1, 2)), True)
        self.assertIs(is_pattern(Book([("a", 0)]), (-1,)), True)

    def test_no_patterns(self):
        for wrong in NO_PATTERNS:
            self.assertIs(is_pattern(BOOK, wrong), False)
        self.assertIs(is_pattern(TWO, (1, -1)), False)
        self.assertIs(is_pattern(Book([("a", 0)]), (1,)), False)

    def test_same_as_the_slow_way(self):
        for signs in slow.BOOKS:
            numbers = range(-2, len(signs) + 1)
            for many in range(0, 5 if len(signs) > 3 else 6):
                for told in slow.product(numbers, repeat=many):
                    self.assertIs(is_pattern(Book(signs), told), slow_sets.is_pattern(signs, told))

    def test_one_number_otherwise(self):
        for pattern in PATTERNS:
            for place in range(len(pattern) + 1):
                tuples = [pattern[:place] + pattern[place + 1:]]
                for number in NUMBERS:
                    tuples.append(pattern[:place] + (number,) + pattern[place:])
                    tuples.append(pattern[:place] + (number,) + pattern[place + 1:])
                for told in tuples:
                    wanted = slow_sets.is_pattern(slow.BOOKS[1], told)
                    self.assertIs(is_pattern(BOOK, told), wanted)
                    if not wanted:
                        self.refused("NoPattern", fitting, BOOK, told)


class FitsTest(HandTest):
    def test_any_tree_fits_its_sign_alone(self):
        for tree in (LEAF, TREE, PATH, COMB):
            self.assertIs(fits(BOOK, (-1,), tree), True)

    def test_kids_stand_at_their_places(self):
        self.assertIs(fits(BOOK, (2, -1, 0), TREE), True)
        self.assertIs(fits(BOOK, (2, 0, -1), TREE), False)
        self.assertIs(fits(BOOK, (2, -1, -1), TREE), True)
        self.assertIs(fits(BOOK, (1, -1), TREE), False)
        self.assertIs(fits(BOOK, (2, 1, -1, 0), TREE), True)
        self.assertIs(fits(BOOK, (2, 1, 0, 0), TREE), True)
        self.assertIs(fits(BOOK, (2, 1, 1, -1, 0), TREE), False)

    def test_parts_need_not_fit(self):
        self.assertIs(fits(BOOK, (1, -1), TREE), False)
        self.assertIs(holding(BOOK, (1, -1)).likes(TREE), True)

    def test_same_as_the_slow_way(self):
        for signs, size, most in zip(slow.BOOKS, (2, 6, 6, 3), (3, 4, 5, 3)):
            trees = slow.grown_to(signs, size)
            for pattern in patterns_to(signs, most):
                plain = slow_sets.read_pattern(signs, pattern)[0]
                for tree in trees:
                    self.assertIs(fits(Book(signs), pattern, slow.row(tree)), slow_sets.fits(plain, tree))

    def test_trees_of_40_signs(self):
        self.assertIs(fits(BOOK, (1, 1, 1, 1, 1, -1), PATH), True)
        self.assertIs(fits(BOOK, (1, 1, 1, 1, 1, 0), PATH), False)
        self.assertIs(fits(BOOK, (2, 0, 2, 0, -1), COMB), True)
        self.assertIs(fits(BOOK, (2, -1, 2, -1, 0), COMB), False)

    def test_no_patterns_and_no_trees(self):
        for wrong in NO_PATTERNS:
            self.refused("NoPattern", fits, BOOK, wrong, TREE)
            self.refused("NoPattern", fits, BOOK, wrong, LEAF)
        for wrong in NO_TREES:
            self.refused("NoTree", fits, BOOK, (-1,), wrong)
            self.refused("NoTree", fits, BOOK, (2, -1, 0), wrong)

    def test_pattern_is_looked_at_first(self):
        for pattern in NO_PATTERNS:
            for tree in NO_TREES:
                self.refused("NoPattern", fits, BOOK, pattern, tree)
        # A pattern that is handed in as a tree is none.
        self.refused("NoTree", fits, BOOK, (2, -1, 0), (2, -1, 0))


class ReadersTest(HandTest):
    def test_known_readers_of_trees_that_fit(self):
        self.assertEqual(plain_of(fitting(BOOK, (-1,))), (1, [[0], [0], [0]], [0]))
        self.assertEqual(plain_of(fitting(BOOK, (0,))), (2, [[0], [1, 1], [1] * 4], [0]))
        self.assertEqual(plain_of(fitting(BOOK, (1, -1))), (2, [[0], [1, 1], [0] * 4], [1]))
        # Mood 0: the leaf. Mood 1: not the leaf, and no f with the leaf as its second kid. Mood 2: such an f.
        self.assertEqual(plain_of(fitting(BOOK, (2, -1, 0))),
                         (3, [[0], [1, 1, 1], [2, 1, 1, 2, 1, 1, 2, 1, 1]], [2]))

    def test_known_readers_of_trees_that_hold(self):
        self.assertEqual(plain_of(holding(BOOK, (-1,))), (1, [[0], [0], [0]], [0]))
        self.assertEqual(plain_of(holding(BOOK, (0,))), (1, [[0], [0], [0]], [0]))
        self.assertEqual(plain_of(holding(BOOK, (1, -1))), (2, [[0], [1, 1], [0, 1, 1, 1]], [1]))
        self.assertEqual(plain_of(holding(BOOK, (1, 0))),
                         (3, [[0], [1, 1, 2], [2, 1, 2, 1, 1, 1, 2, 1, 2]], [1]))
        self.assertEqual(plain_of(holding(TWO, (1,))), (2, [[0, 0, 0, 1], [0], [1]], [0]))

    def holds(self, signs, pattern, trees):
        book = Book(signs)
        plain = slow_sets.read_pattern(signs, pattern)[0]
        one, other = fitting(book, pattern), holding(book, pattern)
        for tree in trees:
            row = slow.row(tree)
            self.assertIs(one.likes(row), slow_sets.fits(plain, tree))
            self.assertIs(one.likes(row), fits(book, pattern, row))
            self.assertIs(other.likes(row), slow_sets.holds(plain, tree))
        for told in (one, other):
            self.assertIsInstance(told, Reader)
            self.assertIs(told.book().is_like(book), True)
            self.assertEqual(slow_readers.least(signs, plain_of(told)), plain_of(told))
        self.assertEqual(plain_of(fitting(book, pattern)), plain_of(one))
        self.assertEqual(plain_of(holding(book, pattern)), plain_of(other))

    def test_patterns_of_few_numbers(self):
        for signs, size, most in zip(slow.BOOKS, (2, 6, 6, 3), (3, 4, 5, 2)):
            trees = slow.grown_to(signs, size)
            for pattern in patterns_to(signs, most):
                self.holds(signs, pattern, trees)

    def test_patterns_of_six_numbers(self):
        chance = random.Random(51)
        for signs, size in ((slow.BOOKS[1], 6), (slow.BOOKS[2], 7), (slow.BOOKS[3], 3)):
            trees = slow.grown_to(signs, size)
            numbers = range(-1, len(signs))
            six = [told for told in slow.product(numbers, repeat=6 if len(signs) == 3 else 4)
                   if slow_sets.is_pattern(signs, told)]
            for pattern in chance.sample(six, min(12, len(six))):
                self.holds(signs, pattern, trees)

    def test_trees_of_up_to_40_signs(self):
        chance = random.Random(52)
        signs = slow.BOOKS[1]
        trees = [some_tree(chance, signs, size) for size in range(1, 41)]
        trees.extend(some_tree(chance, signs, 40) for _ in range(10))
        for pattern in PATTERNS:
            self.holds(signs, pattern, trees)
        signs = slow.BOOKS[3]
        trees = [some_tree(chance, signs, size) for size in range(1, 41)]
        # f(_,a), k(f(_,b),_) and h(g(k(a,_))).
        for pattern in ((1, -1, 2), (5, 1, -1, 4, -1), (3, 0, 5, 2, -1)):
            self.holds(signs, pattern, trees)

    def test_a_tree_that_fits_holds(self):
        for pattern in PATTERNS:
            one, other = fitting(BOOK, pattern), holding(BOOK, pattern)
            if one.moods() <= 6 and other.moods() <= 6:
                self.assertEqual(plain_of(less(one, other))[2], [])
                self.assertEqual(same(met(one, other), one)[0], "alike")
                self.assertEqual(about(about(other)).liked(), other.liked())

    def test_no_patterns(self):
        for wrong in NO_PATTERNS:
            self.refused("NoPattern", fitting, BOOK, wrong)
            self.refused("NoPattern", holding, BOOK, wrong)
        self.refused("NoPattern", fitting, TWO, (1, -1))
        self.refused("NoPattern", holding, Book([("a", 0)]), (1, -1))

    def test_told_readers_stand_alone(self):
        for call in (fitting, holding):
            told = call(BOOK, (2, -1, 0))
            before = plain_of(told)
            told.table(2).clear()
            told.liked().append(9)
            self.assertEqual(plain_of(told), before)
            self.assertEqual(plain_of(call(BOOK, (2, -1, 0))), before)
            self.assertEqual(plain_of(made(BOOK, before)), before)


if __name__ == "__main__":
    unittest.main()
