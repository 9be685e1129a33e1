"""Points 11 and 12, and points 1, 2 and 10 where they are about sets."""

import random
import unittest

import slow
import slow_readers
from given import (BOOK, LEAF, TREE, UNLIKE, HandTest, counting, even_heights, made, plain_of, some_plain,
                   some_tree)
from treehands.readers import Reader
from treehands.sets import about, first, first_to, joined, least, less, met, same, shows
from treehands.signs import Book

EVEN_BOOK = Book([("a", 0), ("f", 2)])
FULL = [(0,)]
for _ in range(6):
    FULL.append((1,) + FULL[-1] + FULL[-1])


class JoinedTest(HandTest):
    def holds(self, signs, one_plain, other_plain, trees):
        """Hold the told sets of two readers against these trees, one by one."""
        one, other = made(Book(signs), one_plain), made(Book(signs), other_plain)
        told = {"or": joined(one, other), "and": met(one, other), "but": less(one, other),
                "rest": less(other, one), "not": about(one), "same": least(one)}
        here, there = slow_readers.leads(signs, one_plain), slow_readers.leads(signs, other_plain)
        for tree in trees:
            in_one = slow_readers.state(here, tree) in one_plain[2]
            in_other = slow_readers.state(there, tree) in other_plain[2]
            wanted = {"or": in_one or in_other, "and": in_one and in_other, "but": in_one and not in_other,
                      "rest": in_other and not in_one, "not": not in_one, "same": in_one}
            self.assertEqual({name: reader.likes(slow.row(tree)) for name, reader in told.items()}, wanted)

    def test_trees_of_few_signs(self):
        chance = random.Random(21)
        for signs, size in zip(slow.BOOKS, (2, 7, 7, 4)):
            trees = slow.grown_to(signs, size)
            for one_moods, other_moods in ((1, 2), (2, 2), (2, 3), (3, 2), (3, 4)):
                self.holds(signs, some_plain(chance, signs, one_moods), some_plain(chance, signs, other_moods), trees)

    def test_readers_of_six_moods(self):
        chance = random.Random(22)
        for signs, size in ((slow.BOOKS[1], 6), (slow.BOOKS[3], 3)):
            trees = slow.grown_to(signs, size)
            trees.extend(some_tree(chance, signs, many) for many in (10, 20, 30, 38, 39, 40, 40))
            for _ in range(3):
                self.holds(signs, some_plain(chance, signs, 6), some_plain(chance, signs, 6), trees)
            self.holds(signs, counting(signs, 0, 6, [1, 2]), counting(signs, 1, 6, [0, 1, 3]), trees)

    def test_some_trees_of_40_signs(self):
        chance = random.Random(23)
        for signs in (slow.BOOKS[1], slow.BOOKS[3]):
            trees = [some_tree(chance, signs, 40) for _ in range(30)]
            self.holds(signs, counting(signs, 0, 5, [0, 2]), counting(signs, 1, 3, [1]), trees)
            self.holds(signs, some_plain(chance, signs, 4), some_plain(chance, signs, 3), trees)

    def test_known_sets(self):
        # By two and by three the signs g of paths are counted.
        signs = [("a", 0), ("g", 1)]
        two = made(Book(signs), (2, [[0], [1, 0]], [0]))
        three = made(Book(signs), (3, [[0], [1, 2, 0]], [0]))
        six = [[0], [1, 2, 3, 4, 5, 0]]
        self.assertEqual(plain_of(joined(two, three)), (6, six, [0, 2, 3, 4]))
        self.assertEqual(plain_of(met(two, three)), (6, six, [0]))
        self.assertEqual(plain_of(less(two, three)), (6, six, [2, 4]))
        self.assertEqual(plain_of(less(three, two)), (6, six, [3]))
        self.assertEqual(plain_of(about(two)), (2, [[0], [1, 0]], [1]))

    def test_either_way_round(self):
        chance = random.Random(24)
        for signs in slow.BOOKS:
            for moods in (2, 3, 4):
                one = made(Book(signs), some_plain(chance, signs, moods))
                other = made(Book(signs), some_plain(chance, signs, 3))
                self.assertEqual(plain_of(joined(one, other)), plain_of(joined(other, one)))
                self.assertEqual(plain_of(met(one, other)), plain_of(met(other, one)))
                self.assertEqual(plain_of(less(one, other)), plain_of(met(one, about(other))))
                # Neither in the one nor in the other: not in both together.
                self.assertEqual(plain_of(about(joined(one, other))), plain_of(met(about(one), about(other))))

    def test_one_with_itself_and_about_twice(self):
        chance = random.Random(25)
        for signs in slow.BOOKS:
            none = (1, [[0] for _ in signs], [])
            every = (1, [[0] for _ in signs], [0])
            for moods in (1, 2, 4, 6):
                one = made(Book(signs), some_plain(chance, signs, moods))
                wanted = plain_of(least(one))
                self.assertEqual(plain_of(joined(one, one)), wanted)
                self.assertEqual(plain_of(met(one, one)), wanted)
                self.assertEqual(plain_of(about(about(one))), wanted)
                self.assertEqual(plain_of(less(one, one)), none)
                self.assertEqual(plain_of(joined(one, about(one))), every)
                self.assertEqual(plain_of(met(one, about(one))), none)

    def test_told_readers_of_many_moods_may_come(self):
        signs = slow.BOOKS[1]
        one, other = made(BOOK, counting(signs, 0, 6, [1, 2])), made(BOOK, counting(signs, 1, 5, [1, 3]))
        self.assertEqual([told(one, other).moods() for told in (joined, met, less)], [30, 30, 30])
        great = made(BOOK, counting(signs, 1, 6, [0]))
        self.assertEqual([told(one, great).moods() for told in (joined, met, less)], [36, 36, 36])

    def test_readers_that_are_handed_in_are_not_changed(self):
        chance = random.Random(26)
        signs = slow.BOOKS[1]
        plains = [some_plain(chance, signs, 4), some_plain(chance, signs, 3)]
        one, other = [made(BOOK, plain) for plain in plains]
        for call in (joined, met, less, same):
            call(one, other)
        about(one)
        first_to(one)
        first(one)
        shows(one, other, [(0, 0)])
        self.assertEqual([plain_of(one), plain_of(other)], plains)

    def test_told_lists_are_the_askers_own(self):
        one = made(BOOK, counting(slow.BOOKS[1], 0, 2, [1]))
        other = made(BOOK, counting(slow.BOOKS[1], 1, 2, [1]))
        for call in (joined, met, less):
            told = call(one, other)
            before = plain_of(told)
            told.table(2)[0] = 3
            told.liked().append(9)
            self.assertEqual(plain_of(told), before)
            self.assertEqual(plain_of(call(one, other)), before)


class UnlikeTest(HandTest):
    def readers(self, signs):
        """Readers of one mood and of two."""
        return [made(Book(signs), (1, [[0] for _ in signs], [0])), made(Book(signs), counting(signs, 0, 2, [0]))]

    def test_books_that_are_not_alike(self):
        for signs in UNLIKE:
            for one in self.readers(slow.BOOKS[1]):
                for other in self.readers(signs):
                    for here, there in ((one, other), (other, one)):
                        self.refused("Unlike", joined, here, there)
                        self.refused("Unlike", met, here, there)
                        self.refused("Unlike", less, here, there)
                        self.refused("Unlike", same, here, there)
                        self.refused("Unlike", shows, here, there, [(0, 0)])

    def test_unlike_stands_ahead_of_what_is_told_of_the_pairs(self):
        one = self.readers(slow.BOOKS[1])[0]
        for signs in UNLIKE:
            for pairs in ([], [(-1, 0)], [(0, 9)], [(10 ** 29, -5)]):
                self.refused("Unlike", shows, one, self.readers(signs)[0], pairs)

    def test_books_that_are_alike_need_not_be_one(self):
        one = made(Book([("a", 0), ("g", 1), ("f", 2)]), counting(slow.BOOKS[1], 0, 2, [1]))
        other = made(BOOK, counting(slow.BOOKS[1], 0, 2, [1]))
        for call in (joined, met):
            self.assertEqual(plain_of(call(one, other)), plain_of(least(one)))
        self.assertEqual(less(one, other).liked(), [])
        self.assertEqual(same(one, other), ("alike", [(0, 0), (1, 1)]))
        self.assertIs(shows(one, other, [(0, 0), (1, 1)]), True)


class FirstTest(HandTest):
    def test_first_trees_of_a_small_reader(self):
        # Counts signs g and f by three.
        reader = Reader(BOOK, 3, [[0], [1, 2, 0], [1, 2, 0, 2, 0, 1, 0, 1, 2]], [2])
        self.assertEqual(first_to(reader), [(0,), (1, 0), (1, 1, 0)])
        self.assertEqual(first(reader), (1, 1, 0))

    def test_mood_that_is_not_met(self):
        reader = Reader(BOOK, 4, [[2], [2, 0, 3, 3], [1] * 10 + [2] * 6], [0, 1])
        self.assertEqual(first_to(reader), [None, None, (0,), (1, 0)])
        self.assertIsNone(first(reader))

    def test_nothing_liked(self):
        self.assertIsNone(first(Reader(BOOK, 2, [[0], [1, 0], [0] * 4], [])))
        self.assertIsNone(first(Reader(BOOK, 1, [[0], [0], [0]], [])))

    def test_all_liked(self):
        self.assertEqual(first(Reader(BOOK, 1, [[0], [0], [0]], [0])), LEAF)
        self.assertEqual(first_to(Reader(BOOK, 1, [[0], [0], [0]], [])), [LEAF])
        two = Book([("f", 2), ("a", 0), ("b", 0)])
        self.assertEqual(first(Reader(two, 2, [[0] * 4, [1], [0]], [0, 1])), (1,))
        self.assertEqual(first(Reader(two, 2, [[0] * 4, [1], [0]], [0])), (2,))

    def test_first_liked_is_not_that_of_the_least_mood(self):
        reader = Reader(BOOK, 3, [[2], [2, 2, 1], [0] * 9], [0, 1])
        self.assertEqual(first_to(reader), [(2, 0, 0), (1, 0), (0,)])
        self.assertEqual(first(reader), (1, 0))

    def test_trees_alike_in_size(self):
        # f(a,b), f(b,a), g(g(a)) and h(g(a)) have three signs: the sign decides, then the first unlike kid.
        signs = [("h", 1), ("f", 2), ("b", 0), ("a", 0), ("g", 1)]
        sizes = (6, [[3, 3, 4, 5, 5, 5], [5] * 36, [0], [1], [2, 2, 4, 5, 5, 5]], [4, 5])
        sizes[1][1][0 * 6 + 1] = sizes[1][1][1 * 6 + 0] = 4
        reader = made(Book(signs), sizes)
        # h(h(b)) leads to mood 5, h(g(b)), g(g(b)), f(b,a) and f(a,b) to 4: h goes ahead, as sign 0.
        self.assertEqual(first_to(reader), [(2,), (3,), (4, 2), (0, 2), (0, 4, 2), (0, 0, 2)])
        self.assertEqual(first(reader), (0, 0, 2))

    def test_first_unlike_kid_decides(self):
        signs = [("f", 2), ("b", 0), ("a", 0)]
        table = [3] * 16
        # f(b,a) and f(a,b) lead to mood 2: b, which has the lesser number, goes ahead as the first kid.
        table[0 * 4 + 1] = table[1 * 4 + 0] = 2
        self.assertEqual(first_to(made(Book(signs), (4, [table, [1], [0]], [2]))),
                         [(2,), (1,), (0, 1, 2), (0, 1, 1)])

    def test_even_heights_of_six_moods(self):
        reader = made(EVEN_BOOK, even_heights(6))
        self.assertEqual(first_to(reader), FULL[:5] + [(1, 0, 1, 0, 0)])
        self.assertEqual(len(first_to(reader)[4]), 31)
        self.assertEqual(first(reader), (0,))
        high = Reader(EVEN_BOOK, 6, even_heights(6)[1], [4])
        self.assertEqual(first(high), FULL[4])

    def test_first_tree_of_63_signs(self):
        # From f of two kids of one mood the next mood, else mood 0: the last mood has the sixth full tree.
        table = [here + 1 if here == there < 5 else 0 for here in range(6) for there in range(6)]
        self.assertEqual(first_to(Reader(EVEN_BOOK, 6, [[0], table], [])), FULL[:6])
        self.assertEqual(first(Reader(EVEN_BOOK, 6, [[0], table], [5])), FULL[5])

    def test_same_as_all_trees_one_by_one(self):
        chance = random.Random(27)
        for signs, size in zip(slow.BOOKS, (2, 7, 7, 4)):
            trees = [slow_readers.best_row(told) for told in sorted(self.sized(tree) for tree in
                                                                    slow.grown_to(signs, size))]
            for moods in (1, 2, 3, 4, 5, 6):
                plain = some_plain(chance, signs, moods)
                reader = made(Book(signs), plain)
                found, liked = {}, None
                for row in trees:
                    mood = reader.mood(row)
                    found.setdefault(mood, row)
                    if liked is None and mood in plain[2]:
                        liked = row
                for mood, row in enumerate(first_to(reader)):
                    if mood in found:
                        self.assertEqual(row, found[mood])
                    elif row is not None:
                        self.assertGreater(len(row), size)
                if liked is not None:
                    self.assertEqual(first(reader), liked)

    def sized(self, tree):
        """A tree as the slow way compares it: its size, its sign and its kids told so."""
        kids = tuple(self.sized(kid) for kid in tree[1:])
        return (1 + sum(kid[0] for kid in kids), tree[0]) + kids

    def test_same_as_the_slow_way(self):
        chance = random.Random(28)
        for signs in slow.BOOKS:
            for moods in range(1, 7):
                for _ in range(5):
                    plain = some_plain(chance, signs, moods)
                    best = slow_readers.best(slow_readers.leads(signs, plain))
                    wanted = [slow_readers.best_row(best[mood]) if mood in best else None for mood in range(moods)]
                    self.assertEqual(first_to(made(Book(signs), plain)), wanted)
                    liked = [best[mood] for mood in plain[2] if mood in best]
                    row = slow_readers.best_row(min(liked)) if liked else None
                    self.assertEqual(first(made(Book(signs), plain)), row)

    def test_told_list_is_the_askers_own(self):
        reader = made(BOOK, counting(slow.BOOKS[1], 1, 2, [1]))
        told = first_to(reader)
        told[0] = TREE
        told.append(None)
        self.assertEqual(first_to(reader), [(0,), (1, 0)])


if __name__ == "__main__":
    unittest.main()
