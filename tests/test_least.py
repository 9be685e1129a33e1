"""Point 9: least readers, and that all told readers are least; point 10."""

import random
import unittest

import slow
import slow_readers
from given import (BOOK, LEAF, PATH, TREE, HandTest, counting, even_heights, made, plain_of, some_moods,
                   some_plain)
from treehands.readers import Reader
from treehands.sets import about, joined, least, less, met
from treehands.signs import Book


def told_least(signs, plain):
    return plain_of(least(made(Book(signs), plain)))


def all_plain(signs, moods):
    """All plain readers of so many moods."""
    tables = [slow.product(range(moods), repeat=moods ** kids) for _, kids in signs]
    for chosen in slow.product(*tables):
        for likes in slow.product((False, True), repeat=moods):
            liked = [mood for mood in range(moods) if likes[mood]]
            yield (moods, [list(table) for table in chosen], liked)


def blown_up(chance, signs, plain, moods):
    """A plain reader of the same set with more moods: some moods stand for one, some may not be met."""
    few, _, liked = plain
    heads = list(range(few)) + [chance.randrange(few) for _ in range(moods - few)]
    chance.shuffle(heads)
    told = slow_readers.leads(signs, plain)
    tables = []
    for sign, (_, kids) in enumerate(signs):
        table = []
        for chosen in slow.product(range(moods), repeat=kids):
            mood = told[(sign, tuple(heads[kid] for kid in chosen))]
            table.append(chance.choice([place for place in range(moods) if heads[place] == mood]))
        tables.append(table)
    return (moods, tables, [mood for mood in range(moods) if heads[mood] in liked])


class LeastTest(HandTest):
    def test_moods_that_nothing_parts_are_one(self):
        # Moods 0 and 2 tell even numbers of signs g, moods 1 and 3 odd ones.
        signs = [("a", 0), ("g", 1)]
        self.assertEqual(told_least(signs, (4, [[0], [1, 2, 3, 0]], [1, 3])), (2, [[0], [1, 0]], [1]))
        self.assertEqual(told_least(signs, (4, [[0], [1, 2, 3, 0]], [1])), (4, [[0], [1, 2, 3, 0]], [1]))

    def test_moods_that_are_not_met_are_left_out(self):
        self.assertEqual(told_least([("a", 0), ("g", 1)], (3, [[2], [1, 2, 2]], [0, 1])), (1, [[0], [0]], []))
        self.assertEqual(told_least([("a", 0), ("g", 1)], (3, [[1], [0, 2, 1]], [0, 1])), (2, [[0], [1, 0]], [0]))

    def test_none_liked_and_all_liked(self):
        for signs in slow.BOOKS:
            tables = [[0] for _ in signs]
            plain = some_plain(random.Random(11), signs, 5)
            self.assertEqual(told_least(signs, plain[:2] + ([],)), (1, tables, []))
            self.assertEqual(told_least(signs, plain[:2] + ([0, 1, 2, 3, 4],)), (1, tables, [0]))

    def test_all_met_moods_liked(self):
        self.assertEqual(told_least([("a", 0), ("g", 1)], (3, [[2], [0, 1, 1]], [1, 2])), (1, [[0], [0]], [0]))

    def test_sign_with_kids_ahead_of_those_without(self):
        # a gives its mood 2 the number 0; then g of it, ahead of b, gives mood 1 the number 1.
        signs = [("g", 1), ("a", 0), ("b", 0)]
        self.assertEqual(told_least(signs, (3, [[2, 1, 1], [2], [0]], [1])), (3, [[1, 1, 0], [0], [2]], [1]))

    def test_lesser_sign_goes_ahead_of_lesser_kids(self):
        # Behind moods 0 of a and 1 of g(a): g of 1 goes ahead of h of 0.
        signs = [("g", 1), ("h", 1), ("a", 0)]
        plain = (4, [[1, 2, 2, 3], [3, 3, 3, 3], [0]], [1, 3])
        self.assertEqual(told_least(signs, plain), (4, [[1, 2, 2, 3], [3, 3, 3, 3], [0]], [1, 3]))
        self.assertEqual(told_least(signs, (4, [[1, 3, 2, 3], [2, 2, 2, 2], [0]], [1, 2])),
                         (4, [[1, 2, 2, 3], [3, 3, 3, 3], [0]], [1, 3]))

    def test_kids_compare_as_tuples_of_new_numbers(self):
        # f(a,b) goes ahead of f(b,a) and of c, though old numbers tell another order.
        signs = [("f", 2), ("a", 0), ("b", 0)]
        table = [0] * 16
        table[3 * 4 + 1], table[1 * 4 + 3] = 2, 0
        plain = (4, [table, [3], [1]], [0, 3])
        self.assertEqual(told_least(signs, plain), slow_readers.least(signs, plain))
        # a: 3 is 0. f(0,0): old 0 is 1. f(0,1), f(1,0), f(1,1): old 0. b: old 1 is 2. f(0,2): old 2 is 3.
        moods, tables, liked = told_least(signs, plain)
        self.assertEqual((moods, tables[1:], liked), (4, [[0], [2]], [0, 1]))
        self.assertEqual(tables[0], [1, 1, 3, 1] + [1] * 12)

    def test_numbers_go_on_from_the_lowest_sign_again(self):
        # The number of each new mood makes sign g ready anew, ahead of all later signs.
        signs = [("g", 1), ("a", 0), ("h", 1), ("b", 0)]
        plain = (6, [[4, 1, 0, 3, 5, 5], [2], [0, 0, 1, 0, 0, 2], [3]], [0, 3, 4])
        self.assertEqual(told_least(signs, plain), slow_readers.least(signs, plain))
        # a: 2 is 0; g: 0 is 1, 4 is 2, 5 is 3; h of 0: 1 is 4; b: 3 is 5.
        self.assertEqual(told_least(signs, plain),
                         (6, [[1, 2, 3, 3, 4, 5], [0], [4, 1, 1, 0, 1, 1], [5]], [1, 2, 5]))

    def test_least_of_a_least_reader(self):
        chance = random.Random(12)
        for signs in slow.BOOKS:
            for moods in range(1, 7):
                once = told_least(signs, some_plain(chance, signs, moods))
                self.assertEqual(told_least(signs, once), once)

    def test_same_as_the_slow_way(self):
        chance = random.Random(13)
        for signs in slow.BOOKS:
            for moods in range(1, 7):
                for _ in range(4):
                    plain = some_plain(chance, signs, moods)
                    self.assertEqual(told_least(signs, plain), slow_readers.least(signs, plain))

    def test_one_set_has_one_least_reader(self):
        chance = random.Random(14)
        for signs in slow.BOOKS:
            for moods in (1, 2, 3, 4):
                plain = some_plain(chance, signs, moods)
                wanted = told_least(signs, plain)
                for more in (moods, 5, 6):
                    self.assertEqual(told_least(signs, blown_up(chance, signs, plain, more)), wanted)

    def test_no_reader_of_the_set_has_fewer_moods(self):
        for signs, most, size in (([("a", 0)], 3, 1), ([("a", 0), ("g", 1)], 3, 6), ([("f", 2), ("a", 0)], 2, 7)):
            trees = slow.grown_to(signs, size)
            fewest = {}
            for moods in range(1, most + 1):
                for plain in all_plain(signs, moods):
                    told = slow_readers.leads(signs, plain)
                    liked = tuple(slow_readers.state(told, tree) in plain[2] for tree in trees)
                    # Readers of so few moods are parted by a tree of so few signs.
                    fewest.setdefault(liked, told_least(signs, plain))
                    self.assertEqual(told_least(signs, plain), fewest[liked])
                    self.assertLessEqual(fewest[liked][0], moods)

    def test_reader_that_is_handed_in_is_not_changed(self):
        plain = (3, [[2], [1, 2, 2], [2] * 9], [0, 1])
        reader = made(BOOK, plain)
        least(reader)
        self.assertEqual(plain_of(reader), plain)

    def test_told_readers_stand_alone(self):
        reader = Reader(BOOK, 2, [[0], [1, 0], [0, 1, 1, 0]], [1])
        one, other = least(reader), least(reader)
        one.table(1).clear()
        one.liked().clear()
        self.assertEqual(plain_of(one), plain_of(other))
        self.assertIs(one.book().is_like(BOOK), True)
        self.assertIsInstance(one, Reader)


class ToldLeastTest(HandTest):
    def test_all_told_readers_are_least(self):
        chance = random.Random(15)
        for signs in slow.BOOKS:
            book = Book(signs)
            for moods in (1, 2, 3, 4):
                one = made(book, some_plain(chance, signs, moods))
                other = made(book, some_plain(chance, signs, moods))
                for told in (joined(one, other), met(one, other), less(one, other), about(one), least(one)):
                    self.assertEqual(slow_readers.least(signs, plain_of(told)), plain_of(told))
                    self.assertIsInstance(told, Reader)

    def test_told_reader_of_many_moods(self):
        signs = [("a", 0), ("g", 1), ("h", 1)]
        # One counts the signs g by six, the other the signs h: 36 moods, each parted from the others.
        told = met(made(Book(signs), counting(signs, 1, 6, [0])), made(Book(signs), counting(signs, 2, 6, [0])))
        # First all numbers of g are numbered, then h of the first, and so on.
        around = [here - here % 6 + (here + 1) % 6 for here in range(36)]
        self.assertEqual(plain_of(told), (36, [[0], around, [(here + 6) % 36 for here in range(36)]], [0]))
        self.assertEqual(slow_readers.least(signs, plain_of(told)), plain_of(told))

    def test_own_methods_of_a_told_reader_of_many_moods(self):
        signs = slow.BOOKS[1]
        one, other = made(BOOK, counting(signs, 0, 6, [1, 2])), made(BOOK, counting(signs, 1, 6, [1, 3]))
        told = met(one, other)
        self.assertEqual(told.moods(), 36)
        self.assertIs(told.book().is_like(BOOK), True)
        self.assertEqual([len(told.table(sign)) for sign in range(3)], [1, 36, 1296])
        for tree in (LEAF, TREE, PATH, (1, 0), (2, 1, 1, 1, 0, 0)):
            self.assertIs(told.likes(tree), one.likes(tree) and other.likes(tree))
            self.assertIs(told.mood(tree) in told.liked(), told.likes(tree))
        self.assertEqual([told.likes(tree) for tree in (LEAF, TREE, PATH, (1, 0))], [False, True, True, True])
        before = plain_of(told)
        told.table(2).clear()
        told.liked().clear()
        self.assertEqual(plain_of(told), before)

    def test_told_reader_of_few_moods_may_be_handed_in(self):
        chance = random.Random(17)
        signs = slow.BOOKS[1]
        for _ in range(10):
            told = least(made(BOOK, some_plain(chance, signs, chance.randrange(2, 7))))
            liked = some_moods(chance, told.moods())
            again = made(BOOK, (told.moods(), plain_of(told)[1], liked))
            wanted = slow_readers.least(signs, (told.moods(), plain_of(told)[1], told.liked()))
            self.assertEqual(plain_of(least(told)), wanted)
            self.assertEqual(plain_of(joined(told, again)), plain_of(joined(again, told)))

    def test_even_heights(self):
        # Nothing can be left out of a reader that counts heights: its last mood leads to itself alone.
        signs = [("a", 0), ("f", 2)]
        for moods in range(2, 7):
            plain = even_heights(moods)
            self.assertEqual(told_least(signs, plain), slow_readers.least(signs, plain))
            self.assertEqual(told_least(signs, plain)[0], moods)


if __name__ == "__main__":
    unittest.main()
