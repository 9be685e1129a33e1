"""Points 24 and 25, and points 1, 2 and 4 where they are about turners put behind one another."""

import random
import unittest

import slow
import slow_turners
from given import (BOOK, GREAT, LEAF, NO_TREES, OUTSIDE, PATH, TREE, TWO, UNLIKE, HandTest, rows_of, some_rows,
                   some_tree)
from treehands.notes import turner_text
from treehands.signs import Book
from treehands.turners import Turner, again, behind, idle, part_turned, parted, size_turned, turned

# Doubles each g, and turns the kids of each f about.
DOUBLE = [[(0,), (2, (0, 0), (0, 0)), (2, (0, 1), (0, 0))]]
# d doubles, h puts seven signs there, k one, and u is left out.
ROWS = [("a", 0), ("d", 1), ("h", 1), ("k", 1), ("u", 1), ("f", 2)]
LONG = Book(ROWS)
LENGTHENED = [[(0,), (5, (0, 0), (0, 0)), (3,) * 7 + ((0, 0),), (3, (0, 0)), ((0, 0),), (5, (0, 0), (0, 1))]]


def same_book_turner(signs):
    """The turner that turns all trees into one leaf."""
    leaf = [sign for sign, told in enumerate(signs) if told[1] == 0][0]
    return Turner(Book(signs), Book(signs), [[(leaf,)] * len(signs)])


def first_row(row):
    """A turner of the book of ROWS that has this made row for k, and a leaf for all other signs."""
    return Turner(LONG, LONG, [[(0,), (0,), (0,), row, (0,), (0,)]])


class BehindTest(HandTest):
    def test_known_turners(self):
        double = Turner(BOOK, BOOK, DOUBLE)
        told = behind(double, double)
        self.assertIsInstance(told, Turner)
        self.assertEqual(rows_of(told), [[(0,), (2, (0, 0), (0, 0)), (2, (0, 0), (0, 1))]])
        # h of state 0 calls state 1, which leaves the tree alone.
        one = Turner(BOOK, BOOK, [[(1, 0), (1, (1, 0)), (2, (0, 0), (1, 1))], [(0,), (1, (1, 0)), (2, (1, 0), (1, 1))]])
        self.assertEqual(rows_of(behind(one, double)),
                         [[(2, 0, 0), (2, (1, 0), (1, 0)), (2, (1, 1), (0, 0))],
                          [(0,), (2, (1, 0), (1, 0)), (2, (1, 1), (1, 0))]])
        self.assertEqual(rows_of(behind(double, one)),
                         [[(1, 0), (2, (0, 0), (1, 0)), (2, (0, 1), (1, 0))],
                          [(0,), (2, (1, 0), (1, 0)), (2, (1, 1), (1, 0))]])

    def test_states_are_numbered_as_they_are_first_met(self):
        # From (0, 0) by sign f: its second kid by (0, 1), then its first kid by (1, 0); from (0, 1) by g: (1, 1).
        one = Turner(BOOK, BOOK, [[(0,), (1, (1, 0)), (2, (0, 1), (1, 0))], [(0,), ((0, 0),), (0,)]])
        other = Turner(BOOK, BOOK, [[(0,), (0,), (2, (1, 0), (0, 1))], [(0,), ((1, 0),), ((0, 0),)]])
        told = behind(one, other)
        self.assertEqual(rows_of(told), [[(0,), (0,), (2, (1, 1), (2, 0))],
                                         [(0,), ((3, 0),), ((0, 1),)],
                                         [(0,), ((0, 0),), (0,)],
                                         [(0,), ((1, 0),), (0,)]])
        self.assertEqual(told.states(), 4)

    def test_states_that_are_not_met_have_no_number(self):
        # The second state of the one is never called, and of the other one where its kid is left out.
        one = Turner(BOOK, BOOK, [[(0,), (1, (0, 0)), (2, (0, 0), (1, 1))], [(1, 0), (0,), (0,)]])
        other = Turner(BOOK, BOOK, [[(0,), (1, (0, 0)), (1, (0, 0))]])
        self.assertEqual(rows_of(behind(one, other)), [[(0,), (1, (0, 0)), (1, (0, 0))]])

    def test_nine_states(self):
        one = Turner(BOOK, BOOK, [[(0,), (1, ((state + 1) % 3, 0)), (2, (0, 0), (1, 1))] for state in range(3)])
        other = Turner(BOOK, BOOK, [[(0,), (1, (state, 0)), (2, ((state + 1) % 3, 0), (0, 1))] for state in range(3)])
        told = behind(one, other)
        self.assertEqual(told.states(), 9)
        self.assertEqual(rows_of(told), slow_turners.behind(*[slow.BOOKS[1]] * 3, rows_of(one), rows_of(other)))

    def test_same_as_the_slow_way(self):
        chance = random.Random(91)
        great = 0
        for signs in slow.BOOKS:
            for middle in slow.BOOKS[1:]:
                for goals in slow.BOOKS:
                    for states, others, most in ((1, 1, 4), (2, 2, 4), (3, 2, 5), (3, 3, 6), (3, 3, 8)):
                        one = some_rows(chance, signs, middle, states, most)
                        other = some_rows(chance, middle, goals, others, most)
                        wanted = slow_turners.behind(signs, middle, goals, one, other)
                        here = Turner(Book(signs), Book(middle), one)
                        there = Turner(Book(middle), Book(goals), other)
                        if any(len(row) > 60 for made in wanted for row in made):
                            self.refused("TooGreat", behind, here, there)
                            great += 1
                        else:
                            told = behind(here, there)
                            self.assertEqual(rows_of(told), wanted)
                            self.assertIs(told.book().is_like(Book(signs)), True)
                            self.assertIs(told.goals().is_like(Book(goals)), True)
        self.assertGreater(great, 5)

    def test_same_as_turning_twice(self):
        chance = random.Random(92)
        for signs, size in zip(slow.BOOKS, (2, 6, 6, 3)):
            trees = slow.grown_to(signs, size)
            for states in (1, 2, 3):
                for goals in slow.BOOKS[1:]:
                    one = Turner(Book(signs), Book(signs), some_rows(chance, signs, signs, states, 4))
                    other = Turner(Book(signs), Book(goals), some_rows(chance, signs, goals, states, 4))
                    told = behind(one, other)
                    for tree in trees:
                        row = slow.row(tree)
                        middle = turned(one, row)
                        if len(middle) <= 40 and size_turned(other, middle) <= 200:
                            self.assertEqual(turned(told, row), turned(other, middle))
                            self.assertEqual(size_turned(told, row), size_turned(other, middle))

    def test_told_turner_of_more_states_and_longer_rows(self):
        one = Turner(BOOK, BOOK, [[(0,), (1, 1, 1, 1, ((state + 1) % 3, 0)), (2, (0, 0), (1, 1))] for state in range(3)])
        other = Turner(BOOK, BOOK, [[(1, 0), (1, 1, 1, 1, ((state + 1) % 3, 0)), (2, (1, 0), (0, 1))]
                                    for state in range(3)])
        told = behind(one, other)
        self.assertEqual(told.states(), 9)
        self.assertEqual(len(told.row(0, 1)), 17)
        self.assertEqual(turned(told, (1, 0)), (1,) * 17 + (0,))
        self.assertEqual(size_turned(told, PATH), 39 * 16 + 2)
        self.assertEqual(len(part_turned(told, (1,) * 15 + (0,), (0,) * 42)), 200)
        self.refused("TooGreat", part_turned, told, (1,) * 15 + (0,), (0,) * 41)
        self.refused("TooGreat", turned, told, PATH)
        self.assertIn("1.0", turner_text(told))
        self.assertEqual(turner_text(told).count(" / "), 8)

    def test_60_and_61_numbers_and_tuples(self):
        lengthened = Turner(LONG, LONG, LENGTHENED)
        told = behind(first_row((3, 1, 2, 2, 2, 2, (0, 0))), lengthened)
        self.assertEqual(len(told.row(0, 3)), 60)
        self.refused("TooGreat", behind, first_row((1, 2, 2, 2, 2, 3, (0, 0))), lengthened)
        # Numbers alone, too.
        told = behind(first_row((3, 1, 2, 2, 2, 2, 0)), lengthened)
        self.assertEqual(told.row(0, 3), (3, 5) + ((3,) * 28 + (0,)) * 2)
        self.refused("TooGreat", behind, first_row((1, 2, 2, 2, 2, 3, 0)), lengthened)
        self.assertEqual(len(behind(first_row((4, 3, 1, 2, 2, 2, 2, (0, 0))), lengthened).row(0, 3)), 60)
        self.refused("TooGreat", behind, first_row((1,) * 7 + (0,)), lengthened)

    def test_far_too_great(self):
        # Each of seven signs makes four of what stands behind it.
        rows = [[(0,), (2, 2, (0, 0), (0, 0), 2, (0, 0), (0, 0)), (2, (0, 0), (0, 1))]]
        one = Turner(BOOK, BOOK, [[(0,), (1,) * 7 + ((0, 0),), (0,)]])
        self.refused("TooGreat", behind, one, Turner(BOOK, BOOK, rows))

    def test_a_row_of_a_state_that_is_not_met_may_be_too_great(self):
        # State 1 of the one would make too much of it, but nothing leads there.
        lengthened = Turner(LONG, LONG, LENGTHENED)
        rows = [[(0,)] * 6, [(0,), (0,), (0,), (1,) * 7 + ((0, 0),), (0,), (0,)]]
        self.assertEqual(behind(Turner(LONG, LONG, rows), lengthened).states(), 1)
        rows[0][3] = ((1, 0),)
        self.refused("TooGreat", behind, Turner(LONG, LONG, rows), lengthened)

    def test_unlike(self):
        for signs in UNLIKE:
            other = same_book_turner(signs)
            self.refused("Unlike", behind, Turner(BOOK, BOOK, DOUBLE), other)
            self.refused("Unlike", behind, other, Turner(BOOK, BOOK, DOUBLE))
        # The book of the first and the goal book of the second need not be like any other one.
        one = Turner(TWO, BOOK, [[(1, (0, 0)), (0,), (2, 0, 0)]])
        other = Turner(BOOK, TWO, [[(1,), (0, (0, 0), 2), (2,)]])
        self.assertEqual(rows_of(behind(one, other)), [[(0, (0, 0), 2), (1,), (2,)]])
        self.assertEqual(rows_of(behind(other, one)), [[(0,), (1, (0, 0)), (2, 0, 0)]])
        self.refused("Unlike", behind, one, one)

    def test_turners_stay_and_told_ones_stand_alone(self):
        one, other = Turner(BOOK, BOOK, DOUBLE), idle(BOOK)
        told = behind(one, other)
        before = rows_of(told)
        self.assertEqual(rows_of(behind(other, one)), DOUBLE)
        self.assertEqual((rows_of(one), rows_of(told)), (DOUBLE, before))
        self.assertEqual(rows_of(behind(one, other)), before)


class IdleTest(HandTest):
    def test_made_rows(self):
        self.assertEqual(rows_of(idle(BOOK)), [[(0,), (1, (0, 0)), (2, (0, 0), (0, 1))]])
        self.assertEqual(rows_of(idle(TWO)), [[(0, (0, 0), (0, 1)), (1,), (2,)]])
        for signs in slow.BOOKS:
            told = idle(Book(signs))
            self.assertEqual(told.states(), 1)
            self.assertIs(told.book().is_like(Book(signs)), True)
            self.assertIs(told.goals().is_like(Book(signs)), True)

    def test_leaves_each_tree_as_it_is(self):
        chance = random.Random(93)
        for signs in (slow.BOOKS[1], slow.BOOKS[3]):
            for size in range(1, 41):
                row = slow.row(some_tree(chance, signs, size))
                self.assertEqual(turned(idle(Book(signs)), row), row)
                self.assertEqual(again(idle(Book(signs)), row, 20), row)

    def test_behind_and_ahead_of_any_turner(self):
        chance = random.Random(94)
        for signs in slow.BOOKS:
            turner = Turner(Book(signs), Book(signs), some_rows(chance, signs, signs, 1, 4))
            self.assertEqual(rows_of(behind(idle(Book(signs)), turner)), rows_of(turner))
            self.assertEqual(rows_of(behind(turner, idle(Book(signs)))), rows_of(turner))


class AgainTest(HandTest):
    def test_times(self):
        turner = Turner(BOOK, BOOK, [[(1, 0), (1, (0, 0)), (0,)]])
        for times in range(21):
            self.assertEqual(again(turner, LEAF, times), (1,) * times + (0,))
        self.assertEqual(again(turner, TREE, 0), TREE)
        self.assertEqual(again(turner, TREE, 1), LEAF)
        self.assertEqual(again(turner, TREE, 20), (1,) * 19 + (0,))

    def test_same_as_turning_each_time(self):
        chance = random.Random(95)
        for signs in slow.BOOKS:
            for states in (1, 2, 3):
                turner = Turner(Book(signs), Book(signs), some_rows(chance, signs, signs, states, 4))
                row = slow.row(slow.grown_to(signs, 3)[-1])
                for times in range(1, 21):
                    before = again(turner, row, times - 1)
                    if len(before) > 40:
                        break
                    if size_turned(turner, before) > 200:
                        self.refused("TooGreat", again, turner, row, times)
                        break
                    self.assertEqual(again(turner, row, times), turned(turner, before))

    def test_numbers_of_times_out_of_bounds(self):
        turner = idle(BOOK)
        for times in (-1, -20, 21, 22, 100) + OUTSIDE:
            self.refused("NoNumber", again, turner, TREE, times)
        self.assertEqual(again(turner, PATH, 20), PATH)

    def test_200_and_201_signs(self):
        # Of g come five signs, and of the leaf as many as bring a path of 40 signs to 200 or to 201.
        fit = Turner(BOOK, BOOK, [[(1,) * 4 + (0,), (1,) * 5 + ((0, 0),), (0,)]])
        great = Turner(BOOK, BOOK, [[(1,) * 5 + (0,), (1,) * 5 + ((0, 0),), (0,)]])
        self.assertEqual(again(fit, PATH, 1), (1,) * 199 + (0,))
        self.refused("TooGreat", again, great, PATH, 1)

    def test_200_and_201_signs_at_the_end_of_three_turnings(self):
        # Each g becomes two, and the leaf g(a): 25, 50, 100, 200. Without that: 26, 51, 101, 201.
        fit = Turner(BOOK, BOOK, [[(1, 0), (1, 1, (0, 0)), (0,)]])
        great = Turner(BOOK, BOOK, [[(0,), (1, 1, (0, 0)), (0,)]])
        self.assertEqual([len(again(fit, (1,) * 24 + (0,), times)) for times in range(4)], [25, 50, 100, 200])
        self.assertEqual([len(again(great, (1,) * 25 + (0,), times)) for times in range(3)], [26, 51, 101])
        self.refused("TooGreat", again, great, (1,) * 25 + (0,), 3)
        self.refused("TooGreat", again, fit, (1,) * 24 + (0,), 4)

    def test_too_great_on_the_way(self):
        # Turned once the signs g double, turned twice all is a leaf.
        turner = Turner(BOOK, BOOK, [[(0,), (2, (0, 0), (0, 0)), (0,)]])
        for many in range(1, 40):
            row = (1,) * many + (0,)
            if many < 7:
                self.assertEqual(again(turner, row, 2), LEAF)
                self.assertEqual(again(turner, row, 20), LEAF)
            else:
                self.refused("TooGreat", again, turner, row, 1)
                self.refused("TooGreat", again, turner, row, 2)
                self.refused("TooGreat", again, turner, row, 20)
        self.assertEqual(size_turned(behind(turner, turner), PATH), 1)

    def test_trees_on_the_way_may_have_more_than_40_signs(self):
        turner = Turner(BOOK, BOOK, [[(0,), (2, (0, 0), (0, 0)), (2, (0, 1), (0, 0))]])
        row = (1,) * 6 + (0,)
        self.assertEqual(len(again(turner, row, 2)), 127)
        self.assertEqual(len(again(turner, row, 20)), 127)
        self.assertEqual(again(turner, (2, 0) + row, 1), (2,) + turned(turner, row) + (0,))
        self.assertEqual(again(turner, (2, 0) + row, 20), (2, 0) + turned(turner, row))

    def test_unlike_stands_ahead_of_all_others(self):
        turner = Turner(BOOK, TWO, [[(1,), (2,), (1,)]])
        for tree in (TREE, (), (9,)):
            for times in (0, 1, -1, 21):
                self.refused("Unlike", again, turner, tree, times)
        for signs in UNLIKE:
            leaf = [sign for sign, told in enumerate(signs) if told[1] == 0][0]
            self.refused("Unlike", again, Turner(BOOK, Book(signs), [[(leaf,)] * 3]), TREE, 1)

    def test_tree_stands_ahead_of_the_number(self):
        for wrong in NO_TREES:
            for times in (0, 1, -1, 21, GREAT):
                self.refused("NoTree", again, idle(BOOK), wrong, times)

    def test_number_stands_ahead_of_the_size(self):
        turner = Turner(BOOK, BOOK, DOUBLE)
        self.refused("NoNumber", again, turner, PATH, 21)
        self.refused("NoNumber", again, turner, PATH, -1)
        self.refused("TooGreat", again, turner, PATH, 20)
        self.assertEqual(again(turner, PATH, 0), PATH)


class PartedTest(HandTest):
    def test_known_trees(self):
        double = Turner(BOOK, BOOK, DOUBLE)
        self.assertEqual(parted(double, idle(BOOK), 5), (1, 0))
        self.assertEqual(parted(idle(BOOK), double, 2), (1, 0))
        self.assertIsNone(parted(double, idle(BOOK), 1))
        # They differ by the order of the kids alone.
        other = Turner(BOOK, BOOK, [[(0,), (2, (0, 0), (0, 0)), (2, (0, 0), (0, 1))]])
        self.assertEqual(parted(double, other, 5), (2, 0, 1, 0))
        self.assertIsNone(parted(double, other, 3))

    def test_never_parted(self):
        double = Turner(BOOK, BOOK, DOUBLE)
        for size in range(1, 6):
            self.assertIsNone(parted(double, double, size))
            self.assertIsNone(parted(idle(BOOK), idle(BOOK), size))
        # Two states that do the same, in another order.
        one = Turner(BOOK, BOOK, [[(0,), (1, (1, 0)), (2, (1, 0), (0, 1))], [(0,), (1, (0, 0)), (2, (0, 0), (1, 1))]])
        self.assertIsNone(parted(one, idle(BOOK), 5))
        self.assertIsNone(parted(idle(BOOK), one, 5))

    def test_differ_far_within(self):
        # Each g calls the next state; the last one makes another leaf.
        signs = [("a", 0), ("b", 0), ("g", 1)]
        book = Book(signs)
        one = Turner(book, book, [[(0,), (1,), (2, (min(state + 1, 2), 0))] for state in range(3)])
        other = Turner(book, book, [[(0,), (1,), (2, (1, 0))], [(0,), (1,), (2, (2, 0))], [(0,), (0,), (2, (2, 0))]])
        self.assertEqual(parted(one, other, 3), (2, 2, 1))
        self.assertIsNone(parted(one, other, 2))
        self.assertEqual(parted(one, other, 5), (2, 2, 1))

    def test_great_trees_that_differ_at_one_leaf(self):
        # Eight signs to a sign: what comes of five signs has hundreds, unlike at the last leaf alone.
        signs = [("a", 0), ("b", 0), ("g", 1), ("f", 2)]
        book = Book(signs)
        four = (3, 3, (0, 0), (0, 0), 3, (0, 0), (1, 0))
        rows = [[(0,), (1,), four, (0,)], [(0,), (1,), four, (0,)]]
        one = Turner(book, book, rows)
        other = Turner(book, book, [rows[0], [(0,), (0,), four, (0,)]])
        self.assertEqual(parted(one, other, 5), (2, 1))
        self.assertIsNone(parted(one, Turner(book, book, [rows[0], rows[0]]), 5))
        self.assertGreater(size_turned(one, (2, 2, 2, 2, 1)), 400)

    def test_same_as_all_trees_one_by_one(self):
        chance = random.Random(96)
        for signs, size in zip(slow.BOOKS, (5, 5, 5, 4)):
            trees = sorted(slow.grown_to(signs, size), key=lambda tree: len(slow.row(tree)))
            for goals in slow.BOOKS:
                for states, most in ((1, 2), (2, 3), (3, 3)):
                    rows = some_rows(chance, signs, goals, states, most)
                    others = [list(made) for made in rows]
                    others[chance.randrange(states)][chance.randrange(len(signs))] = (
                        [number for number, told in enumerate(goals) if told[1] == 0][0],)
                    self.holds(signs, goals, rows, others, trees)
                    self.holds(signs, goals, rows, some_rows(chance, signs, goals, 2, 2), trees)

    def holds(self, signs, goals, rows, others, trees):
        one, other = slow_turners.trees(goals, rows), slow_turners.trees(goals, others)
        here = Turner(Book(signs), Book(goals), rows)
        there = Turner(Book(signs), Book(goals), others)
        parts = [tree for tree in trees if slow_turners.turned(one, tree) != slow_turners.turned(other, tree)]
        for size in range(1, len(slow.row(trees[-1])) + 1):
            wanted = None
            for tree in parts:
                if len(slow.row(tree)) <= size and (wanted is None or slow.ahead(tree, wanted) < 0):
                    wanted = tree
            self.assertEqual(parted(here, there, size), None if wanted is None else slow.row(wanted))

    def test_sizes_out_of_bounds(self):
        for size in (0, 6, -1, -5, 7, 40) + OUTSIDE:
            self.refused("NoNumber", parted, idle(BOOK), idle(BOOK), size)
            self.refused("NoNumber", parted, idle(BOOK), Turner(BOOK, BOOK, DOUBLE), size)

    def test_unlike_stands_ahead_of_the_size(self):
        for signs in UNLIKE:
            leaf = [sign for sign, told in enumerate(signs) if told[1] == 0][0]
            for other in (same_book_turner(signs), Turner(BOOK, Book(signs), [[(leaf,)] * 3]),
                          Turner(Book(signs), BOOK, [[(0,)] * len(signs)])):
                for size in (1, 5, 0, 6, GREAT):
                    self.refused("Unlike", parted, idle(BOOK), other, size)
                    self.refused("Unlike", parted, other, idle(BOOK), size)


if __name__ == "__main__":
    unittest.main()
