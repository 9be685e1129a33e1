"""Points 22 and 23, and points 1, 2 and 4 where they are about turners."""

import random
import unittest

import slow
import slow_turners
from given import (BOOK, COMB, GREAT, LEAF, NO_TREES, OUTSIDE, PATH, TREE, TWO, HandTest, rows_of, some_rows, some_tree)
from treehands.signs import Book
from treehands.trees import at, is_tree, places
from treehands.turners import Turner, part_turned, size_turned, turned

# Doubles each g, and turns the kids of each f about.
DOUBLE = [[(0,), (2, (0, 0), (0, 0)), (2, (0, 1), (0, 0))]]
# State 0 keeps the signs; states 1 and 2 take by turns the second and the first kid of each f.
THREE = [[(0,), (1, (1, 0)), (2, (1, 0), (2, 1))],
         [(1, 0), ((2, 0),), ((2, 1),)],
         [(0,), (1, 1, (1, 0)), ((1, 0),)]]
LINES = Book([("a", 0), ("g", 1), ("h", 1), ("f", 2)])


def three():
    return [list(made) for made in THREE]


class ToldTest(HandTest):
    def test_all_is_told_as_it_was_handed_in(self):
        turner = Turner(BOOK, BOOK, three())
        self.assertEqual(turner.states(), 3)
        self.assertEqual(rows_of(turner), THREE)
        self.assertIs(turner.book().is_like(BOOK), True)
        self.assertIs(turner.goals().is_like(BOOK), True)

    def test_book_and_goal_book_may_be_unlike(self):
        turner = Turner(BOOK, TWO, [[(1,), ((0, 0),), (0, (0, 1), 2)]])
        self.assertIs(turner.book().is_like(BOOK), True)
        self.assertIs(turner.goals().is_like(TWO), True)
        self.assertIs(turner.book().is_like(turner.goals()), False)
        self.assertEqual(turned(turner, TREE), (0, 1, 2))
        self.assertEqual(turned(turner, (2, 0, 2, 1, 0, 0)), (0, 0, 1, 2, 2))

    def test_made_rows_of_one_and_of_eight(self):
        eight = (1,) * 7 + (0,)
        forks = (2, 2, 2, (0, 0), (0, 1), (0, 1), 1, (0, 0))
        turner = Turner(BOOK, BOOK, [[eight, ((0, 0),), forks]])
        self.assertEqual(rows_of(turner), [[eight, ((0, 0),), forks]])
        self.assertEqual(turned(turner, LEAF), eight)
        self.assertEqual(turned(turner, (1, 1, 0)), eight)
        self.assertEqual(len(turned(turner, (2, 0, 0))), 4 + 4 * 8)

    def test_turners_of_each_number_of_states(self):
        chance = random.Random(81)
        for signs in slow.BOOKS:
            for goals in slow.BOOKS:
                for states in (1, 2, 3):
                    rows = some_rows(chance, signs, goals, states, 8)
                    turner = Turner(Book(signs), Book(goals), rows)
                    self.assertEqual(rows_of(turner), rows)
                    self.assertEqual(turner.states(), states)

    def test_books_of_one_sign(self):
        one = Book([("z", 0)])
        turner = Turner(one, one, [[(0,)]])
        self.assertEqual(turned(turner, LEAF), LEAF)
        self.assertEqual(turned(Turner(one, BOOK, [[(2, 0, 0)]]), LEAF), (2, 0, 0))

    def test_lists_are_not_changed(self):
        rows = three()
        turner = Turner(BOOK, BOOK, rows)
        turned(turner, TREE)
        size_turned(turner, TREE)
        part_turned(turner, TREE, (0,))
        self.assertEqual(rows, THREE)
        wrong = [[(0,), (1,), (0,)]]
        self.refused("NoTurner", Turner, BOOK, BOOK, wrong)
        self.assertEqual(wrong, [[(0,), (1,), (0,)]])

    def test_lists_are_not_kept(self):
        rows = three()
        turner = Turner(BOOK, BOOK, rows)
        before = turned(turner, COMB)
        rows[0][2] = (0,)
        rows[1].clear()
        rows.append([])
        del rows[2]
        self.assertEqual(rows_of(turner), THREE)
        self.assertEqual(turner.states(), 3)
        self.assertEqual(turned(turner, COMB), before)

    def test_turners_of_one_list_stand_alone(self):
        rows = [list(DOUBLE[0])]
        one = Turner(BOOK, BOOK, rows)
        rows[0][1] = (0,)
        other = Turner(BOOK, BOOK, rows)
        self.assertEqual((one.row(0, 1), other.row(0, 1)), (DOUBLE[0][1], (0,)))
        same = [(0,), ((0, 0),), ((1, 0),)]
        twice = Turner(BOOK, BOOK, [same, same])
        same[0] = (1, 0)
        self.assertEqual(rows_of(twice), [[(0,), ((0, 0),), ((1, 0),)]] * 2)


class NoTurnerTest(HandTest):
    def no_turner(self, rows, book=BOOK, goals=BOOK):
        self.refused("NoTurner", Turner, book, goals, rows)

    def otherwise(self, state, sign, row):
        rows = three()
        rows[state][sign] = row
        return rows

    def test_no_state_and_four_states(self):
        self.no_turner([])
        self.no_turner(three() + [list(THREE[0])])
        self.no_turner([list(DOUBLE[0])] * 4)
        self.no_turner([list(DOUBLE[0])] * 100)

    def test_made_rows_too_few_or_too_many(self):
        for state in range(3):
            rows = three()
            rows[state].pop()
            self.no_turner(rows)
            rows = three()
            rows[state].append((0,))
            self.no_turner(rows)
            rows = three()
            rows[state] = []
            self.no_turner(rows)
        self.no_turner([[]])
        self.no_turner([[(0,)] * 100])

    def test_made_rows_too_short_or_too_long(self):
        for state in range(3):
            for sign in range(3):
                for row in ((), (1,) * 8 + (0,), (1,) * 99 + (0,), (2, 0) * 4 + (0,)):
                    self.no_turner(self.otherwise(state, sign, row))
        for row in (((0, 0),) * 9, (2, (0, 0)) * 4 + ((0, 0),), (1,) * 8 + ((0, 0),)):
            self.no_turner(self.otherwise(0, 1, row))
        self.assertEqual(Turner(BOOK, BOOK, self.otherwise(0, 1, (1,) * 7 + ((0, 0),))).states(), 3)

    def test_rows_that_are_none_of_the_goal_book(self):
        for row in NO_TREES:
            if len(row) <= 40:
                self.no_turner(self.otherwise(0, 0, row))
                self.no_turner(self.otherwise(2, 2, row))
        for row in ((2, (0, 0)), (2, (0, 0), (0, 0), 0), ((0, 0), 0), (0, (0, 0)), ((0, 0), (0, 0)), (1, (0, 0), 0),
                    (3, (0, 0)), (-1, (0, 0)), (2, -1, (0, 0)), (2, (0, 0), GREAT)):
            self.no_turner(self.otherwise(0, 1, row))
        # It is a row of the book, but not of the goal book.
        self.no_turner([[(0,), (0,), (0,)]], BOOK, TWO)
        self.no_turner([[(2, 0, 0), (0,), (0,)]], BOOK, TWO)
        self.assertEqual(Turner(BOOK, TWO, [[(0, 1, 2), (1,), (2,)]]).states(), 1)

    def test_states_out_of_bounds(self):
        for state in (-1, 3, 4, -3) + OUTSIDE:
            for row in (((state, 0),), (1, (state, 0)), (2, 0, (state, 0)), (2, (state, 0), 0)):
                self.no_turner(self.otherwise(0, 1, row))
                self.no_turner(self.otherwise(2, 2, row))
        self.no_turner([[(0,), ((1, 0),), (0,)]])
        self.no_turner([[(0,), ((0, 0),), (0,)], [(0,), ((2, 0),), (0,)]])
        self.assertEqual(Turner(BOOK, BOOK, [[(0,), ((1, 0),), (0,)]] * 2).states(), 2)

    def test_kids_out_of_bounds(self):
        for sign in range(3):
            for kid in (-1, sign, sign + 1, 2) + OUTSIDE:
                for row in (((0, kid),), (1, (0, kid)), (2, 0, (0, kid)), (2, (0, kid), 0)):
                    if not 0 <= kid < sign:
                        self.no_turner(self.otherwise(0, sign, row))
                        self.no_turner(self.otherwise(1, sign, row))

    def test_tuples_of_one_or_three_numbers(self):
        for thing in ((), (0,), (0, 0, 0), (0, 0, 0, 0), (GREAT,)):
            for row in ((thing,), (1, thing), (2, thing, 0), (2, (0, 0), thing)):
                self.no_turner(self.otherwise(0, 1, row))
                self.no_turner(self.otherwise(1, 2, row))

    def test_several_faults_at_once(self):
        self.no_turner([[(), (GREAT,)]] * 5)
        self.no_turner([[((GREAT, -GREAT),)]], BOOK, TWO)


class TurnedTest(HandTest):
    def test_known_trees(self):
        double = Turner(BOOK, BOOK, DOUBLE)
        self.assertEqual(turned(double, LEAF), LEAF)
        self.assertEqual(turned(double, (1, 0)), (2, 0, 0))
        self.assertEqual(turned(double, (2, 1, 0, 0)), (2, 0, 2, 0, 0))
        self.assertEqual(turned(double, (1, 2, 1, 0, 0)), (2, 2, 0, 2, 0, 0, 2, 0, 2, 0, 0))

    def test_states_take_turns(self):
        turner = Turner(BOOK, BOOK, THREE)
        self.assertEqual(turned(turner, (2, 0, 0)), (2, 1, 0, 0))
        self.assertEqual(turned(turner, (1, 0)), (1, 1, 0))
        # g by state 1 is g by state 2 left out, and by state 2 two signs.
        self.assertEqual(turned(turner, (1, 1, 1, 0)), (1, 1, 1, 1, 0))

    def test_kid_not_used_at_all_may_be_great(self):
        turner = Turner(BOOK, BOOK, [[(0,), (2, (0, 0), (0, 0)), ((0, 1),)]])
        self.assertEqual(turned(turner, (2,) + (1,) * 37 + (0, 0)), LEAF)
        self.assertEqual(size_turned(turner, (2,) + (1,) * 37 + (0, 0)), 1)

    def test_same_as_the_slow_way(self):
        chance = random.Random(82)
        for signs, size in zip(slow.BOOKS, (2, 6, 6, 3)):
            trees = slow.grown_to(signs, size)
            for goals in slow.BOOKS:
                for states, most in ((1, 3), (2, 3), (3, 4), (3, 8)):
                    rows = some_rows(chance, signs, goals, states, most)
                    turner = Turner(Book(signs), Book(goals), rows)
                    made = slow_turners.trees(goals, rows)
                    for tree in trees if most < 8 else trees[::5]:
                        self.holds(turner, slow.row(tree), slow.row(slow_turners.turned(made, tree)))

    def holds(self, turner, row, wanted):
        self.assertEqual(size_turned(turner, row), len(wanted))
        if len(wanted) > 200:
            self.refused("TooGreat", turned, turner, row)
        else:
            self.assertEqual(turned(turner, row), wanted)
        if len(wanted) <= 40:
            self.assertIs(is_tree(turner.goals(), wanted), True)
            for place in places(turner.goals(), wanted):
                self.assertEqual(part_turned(turner, row, place), at(turner.goals(), wanted, place))

    def test_trees_of_40_signs(self):
        chance = random.Random(83)
        signs = slow.BOOKS[1]
        for _ in range(30):
            rows = some_rows(chance, signs, signs, 3, 3)
            turner = Turner(BOOK, BOOK, rows)
            tree = some_tree(chance, signs, 40)
            if size_turned(turner, slow.row(tree)) < 3000:
                wanted = slow.row(slow_turners.turned(slow_turners.trees(signs, rows), tree))
                self.holds(turner, slow.row(tree), wanted)

    def test_200_and_201_signs(self):
        for leaf in range(1, 8):
            rows = [[(1,) * (leaf - 1) + (0,), (1, 1, 1, 1, 1, (0, 0)), (0,)]]
            turner = Turner(BOOK, BOOK, rows)
            self.assertEqual(size_turned(turner, PATH), 195 + leaf)
            if leaf <= 5:
                self.assertEqual(turned(turner, PATH), (1,) * (194 + leaf) + (0,))
            else:
                self.refused("TooGreat", turned, turner, PATH)

    def test_trees_that_double_at_each_sign(self):
        double = Turner(BOOK, BOOK, DOUBLE)
        for many in range(40):
            row = (1,) * many + (0,)
            self.assertEqual(size_turned(double, row), 2 ** (many + 1) - 1)
            if many < 7:
                self.assertEqual(len(turned(double, row)), 2 ** (many + 1) - 1)
            else:
                self.refused("TooGreat", turned, double, row)
        four = Turner(BOOK, BOOK, [[(0,), (2, 2, (0, 0), (0, 0), 2, (0, 0), (0, 0)), (0,)]])
        self.assertEqual(size_turned(four, PATH), 4 ** 39 + 3 * ((4 ** 39 - 1) // 3))

    def test_no_trees(self):
        for turner in (Turner(BOOK, BOOK, DOUBLE), Turner(BOOK, BOOK, THREE)):
            for wrong in NO_TREES:
                self.refused("NoTree", turned, turner, wrong)
                self.refused("NoTree", size_turned, turner, wrong)
                for place in ((), (0,), (-1,), (GREAT,)):
                    self.refused("NoTree", part_turned, turner, wrong, place)
        # It is a tree of the goal book.
        turner = Turner(TWO, BOOK, [[(0,), (0,), (0,)]])
        self.refused("NoTree", turned, turner, (1, 0))
        self.assertEqual(turned(turner, (0, 1, 2)), LEAF)


class PartTest(HandTest):
    def test_deep_within_what_cannot_be_built(self):
        double = Turner(BOOK, BOOK, DOUBLE)
        for place in ((0,) * 39, (1,) * 39, (0, 1) * 19 + (1,)):
            self.assertEqual(part_turned(double, PATH, place), LEAF)
            self.refused("NoPlace", part_turned, double, PATH, place + (0,))
            self.assertEqual(len(part_turned(double, PATH, place[:33])), 127)
            self.assertEqual(part_turned(double, PATH, place[:37]), (2, 2, 0, 0, 2, 0, 0))
            for many in (0, 1, 20, 31, 32):
                self.refused("TooGreat", part_turned, double, PATH, place[:many])

    def test_200_and_201_signs(self):
        for leaf in range(1, 9):
            # h doubles: what comes of all of it has far more than 200 signs.
            rows = [[(1,) * (leaf - 1) + (0,), (1,) * 7 + ((0, 0),), (3, (0, 0), (0, 0)), (3, (0, 1), (0, 0))]]
            turner = Turner(LINES, LINES, rows)
            tree = (2,) * 11 + (1,) * 28 + (0,)
            self.assertGreater(size_turned(turner, tree), 196 * 2 ** 11)
            for place in ((0,) * 11, (1,) * 11, (0, 1) * 5 + (0,)):
                if leaf <= 4:
                    self.assertEqual(part_turned(turner, tree, place), (1,) * (195 + leaf) + (0,))
                else:
                    self.refused("TooGreat", part_turned, turner, tree, place)
                self.assertEqual(len(part_turned(turner, tree, place + (0,) * leaf)), 196)
                self.refused("TooGreat", part_turned, turner, tree, place[1:])

    def test_places_within_a_made_row(self):
        rows = [[(0,), (2, (0, 0), 2, 1, (0, 0), 0), (1, (0, 1))]]
        turner = Turner(BOOK, BOOK, rows)
        tree = (1, 2, 0, 0)
        whole = (2, 1, 0, 2, 1, 1, 0, 0)
        self.assertEqual(turned(turner, tree), whole)
        for place in places(BOOK, whole):
            self.assertEqual(part_turned(turner, tree, place), at(BOOK, whole, place))

    def test_parts_behind_made_rows_of_one_tuple(self):
        # However many signs g stand there, what comes of them is what comes of the kid.
        turner = Turner(BOOK, BOOK, [[(1, 0), ((0, 0),), (2, (0, 0), (0, 1))]])
        tree = (1, 1, 2, 1, 1, 0, 1, 0)
        self.assertEqual(part_turned(turner, tree, ()), (2, 1, 0, 1, 0))
        self.assertEqual(part_turned(turner, tree, (0,)), (1, 0))
        self.assertEqual(part_turned(turner, tree, (1, 0)), (0,))
        self.refused("NoPlace", part_turned, turner, tree, (0, 0, 0))

    def test_no_places(self):
        turner = Turner(BOOK, BOOK, DOUBLE)
        for place in ((2,), (-1,), (0, 0, 0), (1, 0), (0, 2), (0, -1), (0, 0, 0, 0), (0,) * 100):
            self.refused("NoPlace", part_turned, turner, (2, 0, 1, 0), place)
        for number in OUTSIDE:
            self.refused("NoPlace", part_turned, turner, (2, 0, 1, 0), (number,))
            self.refused("NoPlace", part_turned, turner, (2, 0, 1, 0), (0, number))
        self.assertEqual(part_turned(turner, (2, 0, 1, 0), (0, 0)), LEAF)

    def test_place_is_looked_at_ahead_of_the_size(self):
        double = Turner(BOOK, BOOK, DOUBLE)
        # The part at the place (0,) would be far too great, and it has no third kid.
        for place in ((2,), (0, 2), (0, -1), (0, 0, GREAT), (0,) * 40, (0,) * 100):
            self.refused("NoPlace", part_turned, double, PATH, place)
        self.refused("TooGreat", part_turned, double, PATH, (0, 0, 1))

    def test_tree_is_looked_at_ahead_of_the_place(self):
        double = Turner(BOOK, BOOK, DOUBLE)
        self.refused("NoTree", part_turned, double, (1,) * 40 + (0,), (2,))
        self.refused("NoTree", part_turned, double, (1,) * 40, (0,))


if __name__ == "__main__":
    unittest.main()
