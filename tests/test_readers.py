"""Points 7 and 8, and points 1, 2, 4 and 10 where they are about readers."""

import random
import unittest

import slow
import slow_readers
from given import (BOOK, COMB, GREAT, LEAF, NO_TREES, OUTSIDE, PATH, TREE, TWO, HandTest, counting, made,
                   plain_of, some_plain, some_tree)
from treehands.readers import Reader
from treehands.sets import least, met
from treehands.signs import Book

# Sign g goes round all moods; f tells its first kid's mood, and 2 at the moods 0 and 1.
TABLES = [[0], [1, 2, 0], [0, 2, 0, 1, 1, 1, 2, 2, 2]]


def reader_tables():
    return [list(table) for table in TABLES]


def zero_tables(moods):
    """Tables of BOOK that lead to mood 0 always."""
    return [[0], [0] * moods, [0] * (moods * moods)]


class ToldTest(HandTest):
    def test_all_is_told_as_it_was_handed_in(self):
        reader = Reader(BOOK, 3, reader_tables(), [1, 2])
        self.assertEqual(plain_of(reader), (3, TABLES, [1, 2]))
        self.assertIs(reader.book().is_like(Book([("a", 0), ("g", 1), ("f", 2)])), True)

    def test_readers_of_one_mood(self):
        self.assertEqual(plain_of(Reader(BOOK, 1, [[0], [0], [0]], [])), (1, [[0], [0], [0]], []))
        self.assertEqual(plain_of(Reader(BOOK, 1, [[0], [0], [0]], [0])), (1, [[0], [0], [0]], [0]))
        self.assertEqual(plain_of(Reader(Book([("z", 0)]), 1, [[0]], [0])), (1, [[0]], [0]))

    def test_readers_of_each_number_of_moods(self):
        chance = random.Random(7)
        for signs in slow.BOOKS:
            book = Book(signs)
            for moods in range(1, 7):
                for liked in ([], list(range(moods)), [moods - 1]):
                    plain = some_plain(chance, signs, moods)[:2] + (liked,)
                    reader = made(book, plain)
                    self.assertEqual(plain_of(reader), plain)
                    self.assertIs(reader.book().is_like(Book(signs)), True)

    def test_what_was_told_may_be_handed_in_again(self):
        told = least(Reader(BOOK, 3, reader_tables(), [1, 2]))
        again = Reader(told.book(), told.moods(), [told.table(sign) for sign in range(3)], told.liked())
        self.assertEqual(plain_of(again), plain_of(told))

    def test_lists_are_not_changed(self):
        tables, liked = reader_tables(), [0, 2]
        reader = Reader(BOOK, 3, tables, liked)
        reader.mood(TREE)
        reader.likes(TREE)
        self.assertEqual((tables, liked), (TABLES, [0, 2]))
        wrong = [2, 0]
        self.refused("NoReader", Reader, BOOK, 3, tables, wrong)
        self.assertEqual((tables, wrong), (TABLES, [2, 0]))

    def test_lists_are_not_kept(self):
        tables, liked = reader_tables(), [1]
        reader = Reader(BOOK, 3, tables, liked)
        tables[0][0] = 2
        tables[2].clear()
        tables[1] = [0, 0, 0]
        tables.pop()
        liked[0] = 0
        liked.append(2)
        self.assertEqual(plain_of(reader), (3, TABLES, [1]))
        self.assertEqual(reader.mood(LEAF), 0)
        self.assertIs(reader.likes((1, 0)), True)
        self.assertIs(reader.likes(LEAF), False)

    def test_one_table_handed_in_twice_is_told_as_two(self):
        table = [0, 1]
        reader = Reader(Book([("a", 0), ("g", 1), ("h", 1)]), 2, [[0], table, table], [])
        reader.table(1).append(5)
        self.assertEqual((reader.table(1), reader.table(2)), ([0, 1], [0, 1]))

    def test_told_lists_are_the_askers_own(self):
        reader = Reader(BOOK, 3, reader_tables(), [1])
        for sign in range(3):
            reader.table(sign)[0] = 2
            reader.table(sign).append(7)
            reader.table(sign).clear()
        reader.liked()[0] = 0
        reader.liked().clear()
        self.assertEqual(plain_of(reader), (3, TABLES, [1]))
        self.assertEqual(reader.mood(TREE), 1)
        self.assertIs(reader.likes(TREE), True)

    def test_readers_of_the_same_lists_stand_alone(self):
        tables, liked = reader_tables(), [1]
        one = Reader(BOOK, 3, tables, liked)
        tables[0][0] = 2
        liked.clear()
        other = Reader(BOOK, 3, tables, liked)
        self.assertEqual((one.mood(LEAF), other.mood(LEAF)), (0, 2))
        self.assertEqual((one.liked(), other.liked()), ([1], []))


class NoReaderTest(HandTest):
    def no_reader(self, book, moods, tables, liked):
        self.refused("NoReader", Reader, book, moods, tables, liked)

    def test_numbers_of_moods_out_of_bounds(self):
        for moods in (0, -1, -2, -6, 7, 8, 9):
            with self.subTest(moods=moods):
                self.no_reader(BOOK, moods, zero_tables(moods), [])
                self.no_reader(Book([("a", 0)]), moods, [[0]], [])
                self.no_reader(Book([("a", 0)]), moods, [[0]], [0])
        for moods in OUTSIDE:
            self.no_reader(Book([("a", 0)]), moods, [[0]], [])
            self.no_reader(BOOK, moods, reader_tables(), [1])

    def test_no_moods_and_empty_tables(self):
        self.no_reader(BOOK, 0, [[], [], []], [])
        self.no_reader(BOOK, 0, [], [])

    def test_tables_too_few_or_too_many(self):
        self.no_reader(BOOK, 3, [], [1])
        self.no_reader(BOOK, 3, TABLES[:2], [1])
        self.no_reader(BOOK, 3, TABLES[1:], [1])
        self.no_reader(BOOK, 3, TABLES + [[0]], [1])
        self.no_reader(BOOK, 3, TABLES + [[]], [1])
        self.no_reader(BOOK, 1, [[0]] * 100, [])

    def test_tables_too_short_or_too_long(self):
        for sign in range(3):
            tables = reader_tables()
            tables[sign].pop()
            self.no_reader(BOOK, 3, tables, [1])
            tables = reader_tables()
            tables[sign].append(0)
            self.no_reader(BOOK, 3, tables, [1])
            tables = reader_tables()
            tables[sign].clear()
            self.no_reader(BOOK, 3, tables, [1])

    def test_tables_in_another_order_than_the_signs(self):
        self.no_reader(BOOK, 3, [TABLES[0], TABLES[2], TABLES[1]], [1])
        self.no_reader(TWO, 3, [TABLES[0], TABLES[0], TABLES[2]], [1])
        self.no_reader(BOOK, 2, [[0], [0, 1, 0, 1], [0, 1]], [1])
        self.no_reader(BOOK, 2, [[0, 1], [0], [0, 1, 0, 1]], [1])

    def test_tables_with_a_mood_out_of_bounds(self):
        for sign in range(3):
            for place in range(len(TABLES[sign])):
                for mood in (3, 4) + OUTSIDE:
                    tables = reader_tables()
                    tables[sign][place] = mood
                    self.no_reader(BOOK, 3, tables, [1])

    def test_liked_moods_out_of_order_or_bounds(self):
        for liked in ([1, 0], [0, 2, 1], [2, 1], [0, 0], [1, 1], [0, 1, 1], [0, 0, 1], [0, 1, 2, 2],
                      [3], [0, 3], [0, 1, 2, 3], [1, 3], [-1], [-1, 0], [-2, -1], [-3], [0, -1], [2, 1, 0]):
            with self.subTest(liked=liked):
                self.no_reader(BOOK, 3, reader_tables(), liked)
        for mood in OUTSIDE:
            self.no_reader(BOOK, 3, reader_tables(), [mood])
            self.no_reader(BOOK, 3, reader_tables(), [0, mood])
            self.no_reader(BOOK, 3, reader_tables(), [mood, 0])
        self.no_reader(BOOK, 1, zero_tables(1), [1])

    def test_several_faults_at_once(self):
        self.no_reader(BOOK, 7, [], [9])
        self.no_reader(BOOK, 3, [], [-1])
        self.no_reader(BOOK, GREAT, [[GREAT]], [GREAT])


class MoodTest(HandTest):
    def test_leaf(self):
        reader = Reader(TWO, 3, [[0] * 9, [2], [1]], [1])
        self.assertEqual((reader.mood((1,)), reader.mood((2,))), (2, 1))
        self.assertIs(reader.likes((1,)), False)
        self.assertIs(reader.likes((2,)), True)

    def test_table_of_one_kid(self):
        reader = Reader(BOOK, 3, reader_tables(), [2])
        self.assertEqual([reader.mood((1,) * many + LEAF) for many in range(5)], [0, 1, 2, 0, 1])

    def test_table_of_two_kids_takes_the_first_kids_mood_first(self):
        reader = Reader(BOOK, 3, reader_tables(), [2])
        kids = [(1,) * mood + LEAF for mood in range(3)]
        for here in range(3):
            for there in range(3):
                self.assertEqual(reader.mood((2,) + kids[here] + kids[there]), TABLES[2][here * 3 + there])
        self.assertEqual(reader.mood((2, 0, 1, 0)), 2)
        self.assertEqual(reader.mood((2, 1, 0, 0)), 1)
        self.assertIs(reader.likes((2, 0, 1, 0)), True)
        self.assertIs(reader.likes((2, 1, 0, 0)), False)

    def test_table_of_two_kids_of_six_moods(self):
        table = [(here * 2 + there * 3 + 1) % 6 for here in range(6) for there in range(6)]
        reader = Reader(BOOK, 6, [[0], [1, 2, 3, 4, 5, 0], table], [])
        kids = [(1,) * mood + LEAF for mood in range(6)]
        for here in range(6):
            for there in range(6):
                self.assertEqual(reader.mood((2,) + kids[here] + kids[there]), (here * 2 + there * 3 + 1) % 6)

    def test_trees_of_40_signs(self):
        reader = Reader(BOOK, 3, reader_tables(), [0])
        self.assertEqual((len(PATH), len(COMB)), (40, 40))
        self.assertEqual(reader.mood(PATH), 0)
        self.assertIs(reader.likes(PATH), True)
        # Counts by four the leaves of a tree: the comb has 20 of them, the path has one.
        leaves = Reader(BOOK, 4, [[1], [0, 1, 2, 3], [(k + m) % 4 for k in range(4) for m in range(4)]], [0])
        self.assertEqual((leaves.mood(COMB), leaves.mood(PATH)), (0, 1))
        self.assertIs(leaves.likes(COMB), True)
        self.assertIs(leaves.likes(PATH), False)

    def test_none_liked_and_all_liked(self):
        none = Reader(BOOK, 3, reader_tables(), [])
        every = Reader(BOOK, 3, reader_tables(), [0, 1, 2])
        for tree in (LEAF, TREE, PATH, COMB):
            self.assertIs(none.likes(tree), False)
            self.assertIs(every.likes(tree), True)

    def test_same_as_all_trees_grown(self):
        chance = random.Random(8)
        for signs, size in zip(slow.BOOKS, (2, 6, 7, 4)):
            book = Book(signs)
            trees = slow.grown_to(signs, size)
            for moods in range(1, 7):
                plain = some_plain(chance, signs, moods)
                reader = made(book, plain)
                told = slow_readers.leads(signs, plain)
                for tree in trees:
                    mood = slow_readers.state(told, tree)
                    self.assertEqual(reader.mood(slow.row(tree)), mood)
                    self.assertIs(reader.likes(slow.row(tree)), mood in plain[2])

    def test_same_as_some_trees_of_many_signs(self):
        chance = random.Random(9)
        for signs in (slow.BOOKS[1], slow.BOOKS[3]):
            for size in (20, 39, 40):
                plain = some_plain(chance, signs, 6)
                reader = made(Book(signs), plain)
                told = slow_readers.leads(signs, plain)
                for _ in range(20):
                    tree = some_tree(chance, signs, size)
                    self.assertEqual(len(slow.row(tree)), size)
                    self.assertEqual(reader.mood(slow.row(tree)), slow_readers.state(told, tree))

    def test_no_trees(self):
        signs = slow.BOOKS[1]
        great = met(made(BOOK, counting(signs, 0, 6, [1])), made(BOOK, counting(signs, 1, 6, [1])))
        self.assertEqual(great.moods(), 36)
        for reader in (Reader(BOOK, 3, reader_tables(), [1]), Reader(BOOK, 1, zero_tables(1), []), great):
            for wrong in NO_TREES:
                self.refused("NoTree", reader.mood, wrong)
                self.refused("NoTree", reader.likes, wrong)

    def test_trees_of_another_book_are_none(self):
        reader = Reader(BOOK, 3, reader_tables(), [1])
        self.refused("NoTree", reader.mood, (0, 1, 2))
        self.refused("NoTree", Reader(TWO, 1, [[0], [0], [0]], []).likes, (0,))


if __name__ == "__main__":
    unittest.main()
