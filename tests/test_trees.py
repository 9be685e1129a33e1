"""Points 4 to 6, and points 1 and 2 where they are about trees."""

import functools
import unittest

import slow
from given import BOOK, COMB, GREAT, LEAF, NO_TREES, PATH, TREE, TWO, HandTest
from treehands.signs import Book
from treehands.trees import ahead, at, height, is_tree, kids_of, parts, places, put

NO_PLACES_OF_TREE = (
    (2,), (-1,), (GREAT,), (-GREAT,), (10 ** 30 - 1,),
    (0, 1), (0, 2), (0, -1), (0, GREAT), (0, -GREAT),
    (1, 0), (1, 1), (1, -1), (1, GREAT), (0, 0, 0), (0, 0, -1), (0, 0, GREAT), (2, 0),
    (0,) * 100, (-1, 0), (3, 7, 2),
)


class RowsTest(HandTest):
    def test_row_of_the_document(self):
        self.assertIs(is_tree(BOOK, TREE), True)
        self.assertEqual(kids_of(BOOK, TREE), [(1, 0), (0,)])

    def test_trees_of_1_and_of_40_signs(self):
        for tree in (LEAF, PATH, COMB, (1,) + (2,) * 19 + (0,) * 20):
            with self.subTest(tree=tree):
                self.assertIs(is_tree(BOOK, tree), True)
        self.assertEqual((len(PATH), len(COMB)), (40, 40))

    def test_no_trees(self):
        for tree in NO_TREES:
            with self.subTest(tree=tree):
                self.assertIs(is_tree(BOOK, tree), False)

    def test_trees_of_41_signs_are_none(self):
        for tree in ((1,) * 40 + (0,), (2, 0) * 20 + (0,), (1,) + COMB):
            self.assertEqual(len(tree), 41)
            self.assertIs(is_tree(BOOK, tree), False)

    def test_number_left_out_put_in_or_exchanged(self):
        tree = (2, 1, 0, 2, 0, 1, 0)
        for where in range(len(tree)):
            self.assertIs(is_tree(BOOK, tree[:where] + tree[where + 1:]), tree[where] == 1)
            for sign in range(3):
                put_in = tree[:where] + (sign,) + tree[where:]
                self.assertIs(is_tree(BOOK, put_in), sign == 1)
                exchanged = tree[:where] + (sign,) + tree[where + 1:]
                self.assertIs(is_tree(BOOK, exchanged), sign == tree[where])

    def test_same_as_all_trees_grown(self):
        for signs in slow.BOOKS:
            book = Book(signs)
            for size in range(0, 5):
                grown = {slow.row(tree) for tree in slow.grown(signs, size)}
                for numbers in slow.product(range(-1, len(signs) + 1), repeat=size):
                    self.assertIs(is_tree(book, numbers), numbers in grown)

    def test_no_trees_are_refused_everywhere(self):
        for wrong in NO_TREES:
            with self.subTest(wrong=wrong):
                self.refused("NoTree", kids_of, BOOK, wrong)
                self.refused("NoTree", height, BOOK, wrong)
                self.refused("NoTree", parts, BOOK, wrong)
                self.refused("NoTree", places, BOOK, wrong)
                self.refused("NoTree", ahead, BOOK, wrong, TREE)
                self.refused("NoTree", ahead, BOOK, TREE, wrong)
                self.refused("NoTree", ahead, BOOK, wrong, wrong)
                self.refused("NoTree", at, BOOK, wrong, ())
                self.refused("NoTree", put, BOOK, wrong, (), TREE)
                self.refused("NoTree", put, BOOK, TREE, (), wrong)
                self.refused("NoTree", put, BOOK, TREE, (0, 0), wrong)

    def test_book_tells_what_a_tree_is(self):
        self.assertIs(is_tree(TWO, (0, 1, 2)), True)
        self.assertIs(is_tree(BOOK, (0, 1, 2)), False)
        self.refused("NoTree", kids_of, TWO, (0,))
        self.refused("NoTree", ahead, TWO, (1,), (0,))

    def test_kids_of(self):
        self.assertEqual(kids_of(BOOK, LEAF), [])
        self.assertEqual(kids_of(BOOK, (1, 0)), [(0,)])
        self.assertEqual(kids_of(BOOK, (2, 0, 1, 0)), [(0,), (1, 0)])
        self.assertEqual(kids_of(BOOK, (2, 2, 0, 1, 0, 2, 0, 0)), [(2, 0, 1, 0), (2, 0, 0)])
        self.assertEqual(kids_of(BOOK, PATH), [PATH[1:]])
        self.assertEqual(kids_of(BOOK, COMB), [(0,), COMB[2:]])

    def test_height(self):
        self.assertEqual(height(BOOK, LEAF), 1)
        self.assertEqual(height(BOOK, TREE), 3)
        self.assertEqual(height(BOOK, (2, 0, 1, 0)), 3)
        self.assertEqual(height(BOOK, (2, 0, 0)), 2)
        self.assertEqual(height(BOOK, PATH), 40)
        self.assertEqual(height(BOOK, COMB), 21)
        self.assertEqual(height(BOOK, (2, 1, 1, 0, 1, 0)), 4)

    def test_same_as_kids_and_heights_of_grown_trees(self):
        for signs in slow.BOOKS:
            book = Book(signs)
            for tree in slow.grown_to(signs, 5):
                self.assertEqual(kids_of(book, slow.row(tree)), [slow.row(kid) for kid in tree[1:]])
                self.assertEqual(height(book, slow.row(tree)), slow.height(tree))

    def test_told_kids_are_the_askers_own(self):
        tree = (2, 1, 0, 0)
        told = kids_of(BOOK, tree)
        told.append((7,))
        told[0] = (8,)
        self.assertEqual(kids_of(BOOK, tree), [(1, 0), (0,)])
        kids_of(BOOK, LEAF).append((7,))
        self.assertEqual(kids_of(BOOK, LEAF), [])
        self.assertEqual(tree, (2, 1, 0, 0))


class OrderTest(HandTest):
    def holds(self, book, one, other):
        self.assertEqual(ahead(book, one, other), -1)
        self.assertEqual(ahead(book, other, one), 1)

    def test_fewer_signs_go_ahead(self):
        self.holds(BOOK, (0,), (1, 0))
        self.holds(BOOK, (2, 0, 0), (1, 1, 1, 0))
        self.holds(TWO, (2,), (0, 1, 1))
        self.holds(BOOK, PATH[1:], PATH)
        self.holds(BOOK, (2, 0) * 19 + (0,), PATH)

    def test_lesser_sign_goes_ahead(self):
        self.holds(TWO, (1,), (2,))
        self.holds(BOOK, (1, 1, 0), (2, 0, 0))
        self.holds(BOOK, (1, 2, 0, 0), (2, 0, 1, 0))

    def test_first_unlike_kid_decides(self):
        self.holds(BOOK, (2, 0, 1, 0), (2, 1, 0, 0))
        self.holds(TWO, (0, 1, 2), (0, 2, 1))
        self.holds(TWO, (0, 1, 1), (0, 1, 2))
        self.holds(BOOK, (2, 1, 1, 0, 0), (2, 2, 0, 0, 0))
        self.holds(BOOK, (2, 0, 1, 1, 0), (2, 0, 2, 0, 0))
        self.holds(BOOK, (1, 1, 1, 0), (1, 2, 0, 0))

    def test_kids_are_ordered_by_signs_before_own_sign(self):
        # As tuples these rows compare the other way: the number of signs comes first.
        one = (2, 2, 0, 0, 1, 1, 1, 0)
        other = (2, 1, 1, 1, 0, 2, 0, 0)
        self.holds(BOOK, one, other)
        self.holds(BOOK, (1,) + one, (1,) + other)
        self.holds(BOOK, (2, 0) + one, (2, 0) + other)
        self.assertGreater(one, other)

    def test_same_trees(self):
        for tree in (LEAF, TREE, PATH, COMB):
            self.assertEqual(ahead(BOOK, tree, tuple(list(tree))), 0)

    def test_same_as_the_order_of_grown_trees(self):
        for signs, size in zip(slow.BOOKS, (3, 6, 5, 3)):
            book = Book(signs)
            trees = slow.grown_to(signs, size)
            for one in trees:
                for other in trees:
                    self.assertEqual(ahead(book, slow.row(one), slow.row(other)), slow.ahead(one, other))


class PartsTest(HandTest):
    def test_each_part_once_in_order(self):
        self.assertEqual(parts(BOOK, LEAF), [(0,)])
        self.assertEqual(parts(BOOK, TREE), [(0,), (1, 0), TREE])
        self.assertEqual(parts(BOOK, (2, 1, 0, 1, 0)), [(0,), (1, 0), (2, 1, 0, 1, 0)])
        self.assertEqual(parts(TWO, (0, 2, 1)), [(1,), (2,), (0, 2, 1)])
        self.assertEqual(parts(TWO, (0, 0, 2, 1, 0, 1, 2)),
                         [(1,), (2,), (0, 1, 2), (0, 2, 1), (0, 0, 2, 1, 0, 1, 2)])

    def test_parts_are_not_in_the_order_of_tuples(self):
        tree = (2, 1, 1, 1, 0, 2, 0, 0)
        self.assertEqual(parts(BOOK, tree), [(0,), (1, 0), (1, 1, 0), (2, 0, 0), (1, 1, 1, 0), tree])
        self.assertEqual(parts(BOOK, PATH), [(1,) * many + (0,) for many in range(40)])

    def test_same_as_parts_of_grown_trees(self):
        for signs, size in zip(slow.BOOKS, (3, 7, 7, 4)):
            book = Book(signs)
            for tree in slow.grown_to(signs, size):
                found = list({slow.at(tree, place) for place in slow.places(tree)})
                found.sort(key=functools.cmp_to_key(slow.ahead))
                self.assertEqual(parts(book, slow.row(tree)), [slow.row(part) for part in found])

    def test_told_parts_are_the_askers_own(self):
        told = parts(BOOK, TREE)
        told.clear()
        self.assertEqual(parts(BOOK, TREE), [(0,), (1, 0), TREE])


class PlacesTest(HandTest):
    def test_places_as_tuples_compare(self):
        self.assertEqual(places(BOOK, LEAF), [()])
        self.assertEqual(places(BOOK, TREE), [(), (0,), (0, 0), (1,)])
        self.assertEqual(places(BOOK, (2, 0, 2, 1, 0, 0)), [(), (0,), (1,), (1, 0), (1, 0, 0), (1, 1)])
        self.assertEqual(places(BOOK, PATH), [(0,) * many for many in range(40)])

    def test_at(self):
        self.assertEqual(at(BOOK, LEAF, ()), LEAF)
        self.assertEqual([at(BOOK, TREE, place) for place in places(BOOK, TREE)], [TREE, (1, 0), (0,), (0,)])
        self.assertEqual(at(BOOK, COMB, (1,) * 19), (1, 0))
        self.assertEqual(at(BOOK, PATH, (0,) * 39), (0,))

    def test_put(self):
        self.assertEqual(put(BOOK, TREE, (), (1, 0)), (1, 0))
        self.assertEqual(put(BOOK, TREE, (0,), (0,)), (2, 0, 0))
        self.assertEqual(put(BOOK, TREE, (0, 0), (2, 0, 0)), (2, 1, 2, 0, 0, 0))
        self.assertEqual(put(BOOK, TREE, (1,), (1, 0)), (2, 1, 0, 1, 0))
        self.assertEqual(put(BOOK, LEAF, (), PATH), PATH)

    def test_put_tells_trees_of_more_than_40_signs(self):
        self.assertEqual(put(BOOK, TREE, (0, 0), PATH), (2, 1) + PATH + (0,))
        told = put(BOOK, PATH, (0,) * 39, COMB)
        self.assertEqual(told, (1,) * 39 + COMB)
        self.assertEqual(len(told), 79)
        self.refused("NoTree", kids_of, BOOK, told)
        self.refused("NoTree", put, BOOK, told, (), LEAF)
        self.refused("NoTree", put, BOOK, LEAF, (), told)

    def test_same_as_places_of_grown_trees(self):
        for signs, size in zip(slow.BOOKS, (3, 5, 5, 4)):
            book = Book(signs)
            others = slow.grown_to(signs, 2)
            for tree in slow.grown_to(signs, size):
                told = slow.row(tree)
                self.assertEqual(places(book, told), slow.places(tree))
                for place in slow.places(tree):
                    self.assertEqual(at(book, told, place), slow.row(slow.at(tree, place)))
                    for other in others:
                        self.assertEqual(put(book, told, place, slow.row(other)),
                                         slow.row(slow.put(tree, place, other)))

    def test_just_the_places_are_places(self):
        for signs in slow.BOOKS:
            book = Book(signs)
            for tree in slow.grown_to(signs, 3):
                told = slow.places(tree)
                for length in range(4):
                    for place in slow.product((-1, 0, 1, 2), repeat=length):
                        if place not in told:
                            self.refused("NoPlace", at, book, slow.row(tree), place)
                            self.refused("NoPlace", put, book, slow.row(tree), place, slow.row(tree))

    def test_no_places(self):
        for place in NO_PLACES_OF_TREE:
            with self.subTest(place=place):
                self.refused("NoPlace", at, BOOK, TREE, place)
                self.refused("NoPlace", put, BOOK, TREE, place, LEAF)
        for number in (0, 1, -1, GREAT, -GREAT):
            self.refused("NoPlace", at, BOOK, LEAF, (number,))
            self.refused("NoPlace", at, BOOK, PATH, (0,) * 39 + (number,))
            self.refused("NoPlace", at, BOOK, COMB, (1,) * 20 + (0, number))

    def test_told_places_are_the_askers_own(self):
        told = places(BOOK, TREE)
        told[0] = (5,)
        told.append((6,))
        self.assertEqual(places(BOOK, TREE), [(), (0,), (0, 0), (1,)])


class LeftFirstTest(HandTest):
    def test_tree_is_looked_at_ahead_of_place(self):
        self.refused("NoTree", at, BOOK, (2, 0), (5,))
        self.refused("NoTree", at, BOOK, (), (GREAT,))
        self.refused("NoPlace", at, BOOK, TREE, (5,))

    def test_put_looks_at_tree_then_place_then_other(self):
        self.refused("NoTree", put, BOOK, (2, 0), (5,), LEAF)
        self.refused("NoTree", put, BOOK, (2, 0), (5,), (3,))
        self.refused("NoTree", put, BOOK, (2, 0), (), (3,))
        self.refused("NoPlace", put, BOOK, TREE, (5,), (3,))
        self.refused("NoPlace", put, BOOK, TREE, (0, -1), ())
        self.refused("NoPlace", put, BOOK, TREE, (1, 0), PATH + (0,))
        self.refused("NoTree", put, BOOK, TREE, (1,), (3,))

    def test_ahead_looks_at_both(self):
        self.refused("NoTree", ahead, BOOK, (3,), (2, 0))
        self.refused("NoTree", ahead, BOOK, (3,), (3,))


if __name__ == "__main__":
    unittest.main()
