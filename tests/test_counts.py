"""Points 17 to 19, and points 1 and 2 where they are about counting."""

import random
import unittest

import slow
import slow_sets
from given import (BOOK, GREAT, LEAF, NO_TREES, OUTSIDE, PATH, TREE, TWO, HandTest, counting, made, plain_of, some_plain,
                   some_tree)
from treehands.counts import all_many, cheapest, many, number_of, tree_at
from treehands.patterns import fitting, holding
from treehands.readers import Reader
from treehands.sets import about, first, less
from treehands.signs import Book
from treehands.trees import ahead

EVERY = (1, [[0], [0], [0]], [0])
NONE = (1, [[0], [0], [0]], [])
FORK = [("a", 0), ("f", 2)]
SIX = slow.BOOKS[3]


def every(signs):
    """The plain reader that likes all trees."""
    return (1, [[0] for _ in signs], [0])


def catalan(number):
    told = [1]
    for size in range(number):
        told.append(sum(told[here] * told[size - here] for here in range(size + 1)))
    return told[number]


class ManyTest(HandTest):
    def test_known_numbers(self):
        reader = made(BOOK, EVERY)
        # Of the signs a, g and f: the numbers that Motzkin told.
        self.assertEqual([many(reader, size) for size in range(1, 13)],
                         [1, 1, 2, 4, 9, 21, 51, 127, 323, 835, 2188, 5798])
        paths = made(Book([("a", 0), ("g", 1)]), every([1, 1]))
        self.assertEqual([many(paths, size) for size in range(1, 31)], [1] * 30)
        self.assertEqual([many(made(Book([("a", 0)]), (1, [[0]], [0])), size) for size in range(1, 31)], [1] + [0] * 29)

    def test_far_more_than_may_be_gone_through(self):
        reader = made(Book(FORK), every(FORK))
        for size in range(1, 31):
            self.assertEqual(many(reader, size), catalan((size - 1) // 2) if size % 2 == 1 else 0)
        two = made(TWO, every([0] * 3))
        self.assertEqual(many(two, 29), catalan(14) * 2 ** 15)
        words = [("a", 0), ("b", 1), ("c", 1), ("d", 1), ("e", 1), ("g", 1)]
        self.assertEqual(many(made(Book(words), every(words)), 30), 5 ** 29)
        forks = [("a", 0), ("f", 2), ("h", 2), ("k", 2), ("b", 0), ("c", 0)]
        self.assertEqual(many(made(Book(forks), every(forks)), 29), catalan(14) * 3 ** 14 * 3 ** 15)

    def test_nothing_liked(self):
        self.assertEqual([many(made(BOOK, NONE), size) for size in range(1, 31)], [0] * 30)

    def test_same_as_all_trees_one_by_one(self):
        chance = random.Random(61)
        for signs, size in zip(slow.BOOKS, (3, 8, 9, 5)):
            by_size = [slow.grown(signs, number) for number in range(1, size + 1)]
            for moods in range(1, 7):
                for _ in range(3):
                    plain = some_plain(chance, signs, moods)
                    reader = made(Book(signs), plain)
                    self.assertEqual([many(reader, number) for number in range(1, size + 1)],
                                     [len(slow_sets.liked(signs, plain, trees)) for trees in by_size])

    def test_a_set_and_the_rest_are_all_trees(self):
        chance = random.Random(62)
        for signs in slow.BOOKS:
            book = Book(signs)
            whole = made(book, every(signs))
            for moods in (2, 4, 6):
                reader = made(book, some_plain(chance, signs, moods))
                for size in range(1, 31):
                    self.assertEqual(many(reader, size) + many(about(reader), size), many(whole, size))

    def test_sizes_out_of_bounds(self):
        for reader in (made(BOOK, EVERY), made(BOOK, NONE)):
            for size in (0, -1, -30, 31, 32, 40, 100) + OUTSIDE:
                self.refused("NoNumber", many, reader, size)


class AllManyTest(HandTest):
    def test_endless(self):
        self.assertIsNone(all_many(made(BOOK, EVERY)))
        self.assertIsNone(all_many(made(TWO, every([0] * 3))))
        self.assertIsNone(all_many(fitting(BOOK, (2, -1, 0))))
        self.assertIsNone(all_many(holding(BOOK, (2, 0, 0))))

    def test_none(self):
        self.assertEqual(all_many(made(BOOK, NONE)), 0)
        self.assertEqual(all_many(made(TWO, (1, [[0], [0], [0]], []))), 0)
        self.assertEqual(all_many(less(made(BOOK, EVERY), made(BOOK, EVERY))), 0)

    def test_patterns_without_any_tree(self):
        for pattern in ((0,), (1, 0), (2, 0, 0), (2, 1, 0, 0), (1, 1, 1, 1, 1, 0)):
            self.assertEqual(all_many(fitting(BOOK, pattern)), 1)

    def test_book_without_signs_with_kids(self):
        signs = [("a", 0), ("b", 0), ("c", 0)]
        self.assertEqual(all_many(Reader(Book(signs), 2, [[0], [1], [0]], [0])), 2)
        self.assertEqual(all_many(Reader(Book(signs), 2, [[0], [1], [0]], [0, 1])), 3)
        self.assertEqual(all_many(Reader(Book(signs), 2, [[0], [0], [0]], [1])), 0)

    def heights(self, signs, moods, liked):
        """A plain reader that tells heights, all beyond as the last mood."""
        tables = []
        for _, kids in signs:
            tables.append([min(max(chosen, default=-1) + 1, moods - 1)
                           for chosen in slow.product(range(moods), repeat=kids)])
        return (moods, tables, liked)

    def test_trees_up_to_a_height(self):
        for signs in slow.BOOKS:
            number = 0
            for height in range(1, 6):
                wanted = 0
                for _, kids in signs:
                    wanted += number ** kids
                number = wanted
                plain = self.heights(signs, 6, list(range(height)))
                self.assertEqual(all_many(made(Book(signs), plain)), number)
        self.assertGreater(number, 10 ** 11)

    def test_all_heights(self):
        for signs in slow.BOOKS[1:]:
            self.assertIsNone(all_many(made(Book(signs), self.heights(signs, 6, [5]))))
            self.assertIsNone(all_many(made(Book(signs), self.heights(signs, 2, [0, 1]))))

    def test_mood_that_leads_round_without_being_liked_again(self):
        # Paths: mood 1 is liked, mood 2 goes round for ever.
        signs = [("a", 0), ("g", 1)]
        self.assertEqual(all_many(Reader(Book(signs), 3, [[0], [1, 2, 2]], [0, 1])), 2)
        self.assertEqual(all_many(Reader(Book(signs), 3, [[1], [2, 0, 0]], [1])), 1)
        # The leaf leads to a liked mood and to two moods that go round in turn.
        self.assertEqual(all_many(Reader(Book(signs), 3, [[0], [1, 2, 1]], [0])), 1)

    def test_mood_that_leads_round_and_is_liked_again(self):
        signs = [("a", 0), ("g", 1)]
        self.assertIsNone(all_many(Reader(Book(signs), 3, [[0], [1, 2, 1]], [2])))
        self.assertIsNone(all_many(Reader(Book(signs), 3, [[0], [1, 2, 0]], [1])))
        # It goes round behind the last leaf, and comes out by another sign.
        signs = [("a", 0), ("g", 1), ("h", 1)]
        self.assertIsNone(all_many(Reader(Book(signs), 3, [[0], [0, 2, 2], [1, 2, 2]], [1])))

    def test_mood_that_leads_round_is_not_met(self):
        signs = [("a", 0), ("g", 1), ("f", 2)]
        # Mood 2 goes round and is liked, and nothing comes to it.
        self.assertEqual(all_many(Reader(Book(signs), 3, [[0], [1, 1, 2], [1, 1, 2, 1, 1, 2, 2, 2, 2]], [0, 2])), 1)
        # f(0, 2) would lead round to the liked mood 0.
        self.assertEqual(all_many(Reader(Book(signs), 3, [[0], [1, 1, 2], [1, 1, 0, 1, 1, 0, 0, 0, 0]], [0])), 1)

    def test_each_kid_may_lead_round(self):
        # Only as the first, only as the second kid of f may the leaf be followed by more.
        self.assertIsNone(all_many(Reader(Book(FORK), 2, [[0], [0, 1, 1, 1]], [0])))
        for table in ([1, 2, 2, 1, 2, 2, 2, 2, 2], [1, 1, 2, 2, 2, 2, 2, 2, 2]):
            self.assertIsNone(all_many(Reader(Book(FORK), 3, [[0], table], [1])))
        self.assertEqual(all_many(Reader(Book(FORK), 3, [[0], [1, 2, 2, 2, 2, 2, 2, 2, 2]], [0, 1])), 2)

    def test_same_as_the_counted_sizes(self):
        chance = random.Random(63)
        ended = 0
        for signs in slow.BOOKS:
            for moods in (2, 3, 3, 4, 4):
                for _ in range(25):
                    moods_, tables, liked = some_plain(chance, signs, moods)
                    # The last mood takes all that has too many signs, so that some sets have an end.
                    tables = [[moods - 1 if moods - 1 in chosen else mood for chosen, mood in
                               zip(slow.product(range(moods), repeat=kids), table)]
                              for (_, kids), table in zip(signs, tables)]
                    reader = made(Book(signs), (moods_, tables, liked[:1]))
                    # A tree of at most 4 moods on each path has at most 15 signs; who goes round has one of 16 to 30.
                    counts = [many(reader, size) for size in range(1, 31)]
                    if any(counts[15:]):
                        self.assertIsNone(all_many(reader))
                    else:
                        self.assertEqual(all_many(reader), sum(counts))
                        ended += 1
        self.assertGreater(ended, 50)


class NumbersTest(HandTest):
    def test_known_numbers(self):
        reader = made(BOOK, EVERY)
        trees = [(0,), (1, 0), (1, 1, 0), (2, 0, 0), (1, 1, 1, 0), (1, 2, 0, 0), (2, 0, 1, 0), (2, 1, 0, 0)]
        self.assertEqual([tree_at(reader, number) for number in range(8)], trees)
        self.assertEqual([number_of(reader, tree) for tree in trees], list(range(8)))

    def test_only_liked_trees_are_numbered(self):
        odd = Reader(BOOK, 2, [[0], [1, 0], [0, 1, 1, 0]], [1])
        self.assertEqual([tree_at(odd, number) for number in range(6)],
                         [(1, 0), (1, 1, 1, 0), (1, 2, 0, 0), (2, 0, 1, 0), (2, 1, 0, 0), (1, 1, 1, 1, 1, 0)])

    def test_all_small_trees_of_a_set_in_their_order(self):
        chance = random.Random(64)
        for signs, size in zip(slow.BOOKS, (3, 7, 7, 4)):
            book = Book(signs)
            trees = slow_sets.in_order(slow.grown_to(signs, size))
            for moods in range(1, 7):
                plain = some_plain(chance, signs, moods)
                reader = made(book, plain)
                rows = [slow.row(tree) for tree in slow_sets.liked(signs, plain, trees)]
                self.assertEqual([tree_at(reader, number) for number in range(len(rows))], rows)
                self.assertEqual([number_of(reader, row) for row in rows], list(range(len(rows))))

    def test_first_and_last_number_of_each_size(self):
        chance = random.Random(65)
        for signs in slow.BOOKS[1:]:
            for plain in (every(signs), some_plain(chance, signs, 3)[:2] + ([0, 2],),
                          some_plain(chance, signs, 6)[:2] + ([1, 3, 4],)):
                reader = made(Book(signs), plain)
                number = 0
                for size in range(1, 31):
                    here = many(reader, size)
                    for told in sorted({number, number + here - 1}):
                        if here > 0:
                            row = tree_at(reader, told)
                            self.assertEqual(len(row), size)
                            self.assertIs(reader.likes(row), True)
                            self.assertEqual(number_of(reader, row), told)
                    number += here
                self.refused("NoNumber", tree_at, reader, number)

    def test_first_and_last_of_all(self):
        for signs in slow.BOOKS[1:]:
            reader = made(Book(signs), every(signs))
            whole = sum(many(reader, size) for size in range(1, 31))
            last = tree_at(reader, whole - 1)
            # Of all trees of a size the last has the greatest sign in front, and a great first kid.
            self.assertEqual(number_of(reader, last), whole - 1)
            self.refused("NoNumber", tree_at, reader, whole)
            self.assertEqual(tree_at(reader, 0), first(reader))
            self.assertEqual(number_of(reader, first(reader)), 0)
        self.assertEqual(tree_at(made(BOOK, EVERY), sum(many(made(BOOK, EVERY), size) for size in range(1, 31)) - 1),
                         (2,) * 14 + (1,) + (0,) * 15)

    def test_numbers_far_beyond_what_may_be_gone_through(self):
        chance = random.Random(66)
        for signs in slow.BOOKS[1:]:
            book = Book(signs)
            for moods in (1, 3, 6):
                plain = some_plain(chance, signs, moods)
                reader = made(book, plain[:2] + ([0],))
                whole = sum(many(reader, size) for size in range(1, 31))
                numbers = sorted(chance.randrange(whole) for _ in range(12)) if whole else []
                rows = [tree_at(reader, number) for number in numbers]
                self.assertEqual([number_of(reader, row) for row in rows], numbers)
                for one, other in zip(rows, rows[1:]):
                    self.assertEqual(ahead(book, one, other), 0 if one == other else -1)

    def test_number_behind_is_the_tree_behind(self):
        # Of trees of one size, one number more is a tree that goes behind, and none is between.
        chance = random.Random(67)
        signs = SIX
        reader = made(Book(signs), some_plain(chance, signs, 3)[:2] + ([1, 2],))
        for _ in range(10):
            row = slow.row(some_tree(chance, signs, 28))
            if reader.likes(row):
                number = number_of(reader, row)
                self.assertEqual(tree_at(reader, number), row)
                self.assertEqual(ahead(reader.book(), tree_at(reader, number - 1), row), -1)
                self.assertEqual(ahead(reader.book(), row, tree_at(reader, number + 1)), -1)

    def test_no_numbers(self):
        for wrong in OUTSIDE:
            self.refused("NoNumber", tree_at, made(BOOK, EVERY), wrong)
            self.refused("NoNumber", tree_at, made(BOOK, NONE), wrong)
        self.refused("NoNumber", tree_at, made(BOOK, NONE), 0)
        self.refused("NoNumber", tree_at, made(BOOK, NONE), 1)
        one = fitting(BOOK, (2, 0, 0))
        self.assertEqual(tree_at(one, 0), (2, 0, 0))
        self.refused("NoNumber", tree_at, one, 1)
        self.refused("NoNumber", tree_at, one, -1)

    def test_a_liked_tree_of_more_than_30_signs_has_no_number(self):
        for size in range(31, 41):
            row = (1,) * (size - 1) + (0,)
            self.refused("NoNumber", number_of, made(BOOK, EVERY), row)
            self.refused("NoNumber", number_of, made(BOOK, NONE), row)
        self.assertEqual(number_of(made(BOOK, EVERY), (1,) * 29 + (0,)),
                         sum(many(made(BOOK, EVERY), size) for size in range(1, 30)))

    def test_a_tree_that_is_not_liked_has_no_number(self):
        odd = Reader(BOOK, 2, [[0], [1, 0], [0, 1, 1, 0]], [1])
        for row in (LEAF, (1, 1, 0), (2, 0, 0), (2, 1, 0, 1, 0)):
            self.refused("NoNumber", number_of, odd, row)
            self.refused("NoNumber", number_of, made(BOOK, NONE), row)
        self.assertEqual(number_of(odd, TREE), 4)

    def test_what_is_no_tree_stands_ahead(self):
        for wrong in NO_TREES:
            self.refused("NoTree", number_of, made(BOOK, EVERY), wrong)
            self.refused("NoTree", number_of, made(BOOK, NONE), wrong)

    def test_reader_of_trees_with_an_end(self):
        reader = Reader(Book([("a", 0), ("b", 0), ("g", 1)]), 3, [[0], [0], [1, 2, 2]], [1])
        self.assertEqual([tree_at(reader, number) for number in range(2)], [(2, 0), (2, 1)])
        self.assertEqual([number_of(reader, row) for row in ((2, 0), (2, 1))], [0, 1])
        self.refused("NoNumber", tree_at, reader, 2)


class CheapestTest(HandTest):
    def test_known_costs(self):
        reader = Reader(BOOK, 2, [[0], [1, 0], [0, 1, 1, 0]], [1])
        self.assertEqual(cheapest(reader, [3, 4, 5]), (7, (1, 0)))
        self.assertEqual(cheapest(reader, [0, 0, 0]), (0, (1, 0)))
        self.assertEqual(cheapest(made(BOOK, EVERY), [1000, 0, 0]), (1000, (0,)))

    def test_cheaper_tree_has_more_signs(self):
        signs = [("a", 0), ("g", 1), ("h", 1)]
        # h alone, or three times g, lead to the liked mood.
        reader = Reader(Book(signs), 4, [[0], [1, 2, 3, 3], [3, 0, 0, 0]], [3])
        self.assertEqual(cheapest(reader, [5, 1, 4]), (8, (1, 1, 1, 0)))
        self.assertEqual(cheapest(reader, [5, 1, 2]), (7, (2, 0)))
        self.assertEqual(cheapest(reader, [5, 1, 3]), (8, (2, 0)))
        self.assertEqual(cheapest(reader, [5, 333, 1000]), (1004, (1, 1, 1, 0)))

    def test_dear_leaf_is_left_for_a_cheap_one_behind_many_signs(self):
        # The leaf b costs nothing, but three g stand over it where the leaf a is liked at once.
        signs = [("a", 0), ("b", 0), ("g", 1)]
        reader = Reader(Book(signs), 4, [[3], [0], [1, 2, 3, 3]], [3])
        self.assertEqual(cheapest(reader, [1000, 0, 0]), (0, (2, 2, 2, 1)))
        self.assertEqual(cheapest(reader, [0, 0, 0]), (0, (0,)))
        self.assertEqual(cheapest(reader, [3, 0, 1]), (3, (0,)))
        self.assertEqual(cheapest(reader, [4, 0, 1]), (3, (2, 2, 2, 1)))

    def test_sign_with_a_kid_that_costs_nothing(self):
        # The sign g costs nothing, and however many stand there, the fewest are told.
        signs = [("g", 1), ("a", 0), ("h", 1)]
        reader = Reader(Book(signs), 3, [[0, 1, 2], [0], [1, 2, 2]], [2])
        self.assertEqual(cheapest(reader, [0, 3, 4]), (11, (2, 2, 1)))
        self.assertEqual(cheapest(reader, [0, 0, 0]), (0, (2, 2, 1)))

    def test_of_those_that_cost_as_much_the_one_that_goes_ahead(self):
        # f(b,a), f(a,b) and g(g(a)) all have three signs and cost 3.
        signs = [("f", 2), ("g", 1), ("b", 0), ("a", 0)]
        table = [3] * 16
        table[0 * 4 + 1] = table[1 * 4 + 0] = 2
        reader = Reader(Book(signs), 4, [table, [3, 3, 3, 3], [1], [0]], [2])
        self.assertEqual(cheapest(reader, [1, 1, 1, 1]), (3, (0, 2, 3)))
        self.assertEqual(cheapest(reader, [1, 1, 0, 7]), (8, (0, 2, 3)))

    def test_order_of_kids_is_not_that_of_their_costs(self):
        # f(x,y) of a dear small tree x and a cheap great one y: the small one goes ahead as the first kid.
        signs = [("f", 2), ("a", 0), ("b", 0), ("g", 1)]
        table = [3] * 16
        table[0 * 4 + 2] = table[2 * 4 + 0] = 1
        # Mood 0 is a, which costs 9; mood 2 is g(b), which costs nothing.
        reader = Reader(Book(signs), 4, [table, [0], [3], [3, 3, 3, 2]], [1])
        self.assertEqual(cheapest(reader, [0, 9, 0, 0]), (9, (0, 1, 3, 2)))
        # All other pairs would cost nothing, but lead nowhere.
        self.assertEqual(cheapest(Reader(Book(signs), 4, [table, [0], [3], [3, 3, 3, 2]], [3]), [0, 9, 0, 0]), (0, (2,)))

    def test_nothing_liked(self):
        self.assertIsNone(cheapest(made(BOOK, NONE), [0, 0, 0]))
        self.assertIsNone(cheapest(made(BOOK, NONE), [1000, 1, 2]))
        self.assertIsNone(cheapest(Reader(BOOK, 2, [[0], [0, 1], [0, 1, 1, 1]], [1]), [1, 1, 1]))

    def test_all_alike_is_the_first_tree(self):
        chance = random.Random(68)
        for signs in slow.BOOKS:
            for moods in range(1, 7):
                for weight in (1, 7, 1000):
                    reader = made(Book(signs), some_plain(chance, signs, moods))
                    tree = first(reader)
                    wanted = None if tree is None else (weight * len(tree), tree)
                    self.assertEqual(cheapest(reader, [weight] * len(signs)), wanted)

    def test_same_as_all_trees_one_by_one(self):
        # Who likes a tree by three moods likes one of at most seven signs that costs no more.
        chance = random.Random(69)
        for signs, size, moods in zip(slow.BOOKS, (2, 7, 7, 3), (3, 3, 3, 2)):
            trees = slow_sets.in_order(slow.grown_to(signs, size))
            for top in (0, 1, 2, 3, 1000):
                for _ in range(8):
                    weights = [chance.randrange(top + 1) for _ in signs]
                    plain = some_plain(chance, signs, moods)[:2] + ([moods - 1],)
                    costs = [(slow_sets.cost(weights, tree), number, slow.row(tree)) for number, tree in
                             enumerate(slow_sets.liked(signs, plain, trees))]
                    wanted = (min(costs)[0], min(costs)[2]) if costs else None
                    self.assertEqual(cheapest(made(Book(signs), plain), weights), wanted)

    def test_tree_of_63_signs(self):
        table = [here + 1 if here == there < 5 else 0 for here in range(6) for there in range(6)]
        full = (0,)
        for _ in range(5):
            full = (1,) + full + full
        reader = Reader(Book(FORK), 6, [[0], table], [5])
        self.assertEqual(cheapest(reader, [1000, 1000]), (63000, full))
        self.assertEqual(cheapest(reader, [0, 0]), (0, full))

    def test_no_weights(self):
        for reader in (made(BOOK, EVERY), made(BOOK, NONE)):
            for place in range(3):
                for wrong in (-1, 1001, -1000) + OUTSIDE:
                    weights = [0, 500, 1000]
                    weights[place] = wrong
                    self.refused("NoNumber", cheapest, reader, weights)
            for weights in ([], [1], [1, 1], [1, 1, 1, 1], [0] * 100, [GREAT] * 2, [-1] * 4):
                self.refused("NoNumber", cheapest, reader, weights)
        self.assertEqual(cheapest(made(BOOK, EVERY), [1000, 1000, 1000]), (1000, (0,)))

    def test_weights_stay_as_they_were_handed_in(self):
        for weights in ([3, 4, 5], [0, 0, 0], [1001, 0, 0], [1, 2]):
            told = list(weights)
            try:
                cheapest(made(BOOK, EVERY), told)
            except ValueError:
                pass
            self.assertEqual(told, weights)
        weights = [3, 4, 5]
        self.assertEqual(cheapest(made(BOOK, EVERY), weights), (3, (0,)))
        weights[0] = 9
        self.assertEqual(cheapest(made(BOOK, EVERY), [3, 4, 5]), (3, (0,)))


class UnchangedTest(HandTest):
    def test_readers_stay_and_all_is_told_again(self):
        plain = counting(slow.BOOKS[1], 1, 3, [1, 2])
        reader = made(BOOK, plain)
        asked = (lambda: many(reader, 30), lambda: all_many(reader), lambda: tree_at(reader, 10 ** 9),
                 lambda: number_of(reader, (1, 2, 0, 0)), lambda: cheapest(reader, [2, 1, 0]))
        before = [ask() for ask in asked]
        self.assertEqual([ask() for ask in asked[::-1]], before[::-1])
        self.assertEqual(plain_of(reader), plain)

    def test_some_liked_tree_of_40_signs_is_not_numbered(self):
        reader = made(BOOK, EVERY)
        self.assertIs(reader.likes(PATH), True)
        self.refused("NoNumber", number_of, reader, PATH)


if __name__ == "__main__":
    unittest.main()
