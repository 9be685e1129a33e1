"""Points 13 and 14, and points 1 and 2 where they are about papers."""

import random
import unittest

import slow
import slow_readers
from given import BOOK, OUTSIDE, HandTest, counting, made, plain_of, some_plain
from treehands.readers import Reader
from treehands.sets import least, same, shows
from treehands.signs import Book

EVEN_BOOK = Book([("a", 0), ("f", 2)])
SIGNS = [("a", 0), ("u", 1), ("f", 2), ("h", 2)]


def round_heights(moods, liked):
    """A reader that counts even heights, each by so many; uneven trees come to one mood more."""
    table = [(here + 1) % moods if here == there < moods else moods
             for here, there in slow.product(range(moods + 1), repeat=2)]
    return Reader(EVEN_BOOK, moods + 1, [[0], table], liked)


def doubling(top, of_u):
    """A reader whose moods 0 to 5 are first met from full trees of the sign f; f of two of mood 5 leads to `top`.

    Two such readers with the tops 4 and 5 are parted by great trees alone: h parts the moods
    4 and 5 only where a tree of mood 5, of 63 signs, stands beside that of the top, of 127.
    """
    of_f = [0] * 36
    for mood in range(5):
        of_f[mood * 6 + mood] = mood + 1
    of_f[4 * 6 + 5] = of_f[5 * 6 + 4] = 4
    of_f[0 * 6 + 3] = of_f[3 * 6 + 0] = 1
    of_f[5 * 6 + 5] = top
    of_h = [0] * 36
    of_h[5 * 6 + 5] = 3
    of_h[3 * 6 + 2] = 2
    return (6, [[0], of_u, of_f, of_h], [1])


def parting(signs, one, other):
    """The tree, as the slow way tells it, that goes ahead of all others that just one of two plain readers likes."""
    found = slow_readers.best(slow_readers.pair_leads(signs, one, other))
    trees = [tree for (here, there), tree in found.items() if (here in one[2]) != (there in other[2])]
    return min(trees) if trees else None


class SameTest(HandTest):
    def test_readers_of_one_set(self):
        one = Reader(BOOK, 2, [[0], [1, 0], [0, 1, 1, 0]], [1])
        other = Reader(BOOK, 2, [[1], [1, 0], [1, 0, 0, 1]], [0])
        self.assertEqual(same(one, other), ("alike", [(0, 1), (1, 0)]))
        self.assertEqual(same(other, one), ("alike", [(0, 1), (1, 0)]))
        self.assertEqual(same(one, one), ("alike", [(0, 0), (1, 1)]))

    def test_pairs_are_all_that_are_met_and_rise(self):
        signs = [("a", 0), ("g", 1)]
        two = made(Book(signs), (2, [[1], [1, 0]], []))
        three = made(Book(signs), (4, [[3], [1, 0, 1, 0]], []))
        # Paths come to the moods 1 and 3, then 0 and 0, 1 and 1, 0 and 0 and so on.
        self.assertEqual(same(two, three), ("alike", [(0, 0), (1, 1), (1, 3)]))
        self.assertEqual(same(three, two), ("alike", [(0, 0), (1, 1), (3, 1)]))
        six = made(Book(signs), counting(signs, 1, 3, []))
        self.assertEqual(same(made(Book(signs), counting(signs, 1, 2, [])), six),
                         ("alike", [(0, 0), (0, 1), (0, 2), (1, 0), (1, 1), (1, 2)]))

    def test_readers_of_one_mood(self):
        none = Reader(BOOK, 1, [[0], [0], [0]], [])
        every = Reader(BOOK, 1, [[0], [0], [0]], [0])
        self.assertEqual(same(none, none), ("alike", [(0, 0)]))
        self.assertEqual(same(every, every), ("alike", [(0, 0)]))
        self.assertEqual(same(none, every), ("unlike", (0,)))
        self.assertEqual(same(every, none), ("unlike", (0,)))

    def test_moods_that_are_not_met_part_nothing(self):
        one = Reader(BOOK, 3, [[0], [0, 1, 1], [0, 1, 1, 1, 1, 1, 1, 1, 1]], [0, 2])
        other = Reader(BOOK, 2, [[0], [0, 1], [0, 1, 1, 1]], [0, 1])
        self.assertEqual(same(one, other), ("alike", [(0, 0)]))

    def test_readers_that_differ_by_a_liked_mood(self):
        one = Reader(BOOK, 3, [[0], [1, 2, 2], [0] * 9], [1])
        other = Reader(BOOK, 3, [[0], [1, 2, 2], [0] * 9], [1, 2])
        self.assertEqual(same(one, other), ("unlike", (1, 1, 0)))
        self.assertEqual(same(other, one), ("unlike", (1, 1, 0)))

    def test_readers_that_differ_by_one_mood_of_a_table(self):
        one = (3, [[0], [1, 2, 2], [0, 1, 2, 0, 1, 2, 0, 1, 2]], [2])
        for sign, place, mood, row in ((0, 0, 2, (0,)), (1, 1, 1, (1, 1, 0)), (2, 1, 2, (2, 0, 1, 0)),
                                       (2, 8, 0, (2, 1, 1, 0, 1, 1, 0)), (1, 2, 0, (1, 1, 1, 0))):
            tables = [list(table) for table in one[1]]
            tables[sign][place] = mood
            other = (3, tables, [2])
            self.assertEqual(same(made(BOOK, one), made(BOOK, other)), ("unlike", row))
            self.assertEqual(same(made(BOOK, other), made(BOOK, one)), ("unlike", row))

    def test_same_as_all_trees_one_by_one(self):
        chance = random.Random(31)
        for signs, size in zip(slow.BOOKS, (2, 7, 7, 4)):
            trees = slow.grown_to(signs, size)
            for moods in (1, 2, 2, 3, 3, 4, 6):
                one, other = some_plain(chance, signs, moods), some_plain(chance, signs, moods)
                told = same(made(Book(signs), one), made(Book(signs), other))
                here, there = slow_readers.leads(signs, one), slow_readers.leads(signs, other)
                parts = [slow.row(tree) for tree in trees if (slow_readers.state(here, tree) in one[2])
                         != (slow_readers.state(there, tree) in other[2])]
                if told[0] == "alike":
                    self.assertEqual(parts, [])
                elif len(told[1]) <= size:
                    self.assertIn(told[1], parts)
                else:
                    self.assertEqual(parts, [])

    def test_same_as_the_slow_way(self):
        chance = random.Random(32)
        for signs in slow.BOOKS:
            for one_moods, other_moods in ((1, 3), (2, 2), (3, 2), (4, 4), (3, 5)):
                one, other = some_plain(chance, signs, one_moods), some_plain(chance, signs, other_moods)
                # A few liked moods hide what parts the two.
                one, other = one[:2] + ([one_moods - 1],), other[:2] + ([other_moods - 1],)
                self.holds(signs, one, other)
                self.holds(signs, one, slow_readers.least(signs, one))

    def holds(self, signs, one, other):
        told = same(made(Book(signs), one), made(Book(signs), other))
        tree = parting(signs, one, other)
        if tree is None:
            pairs = sorted(slow_readers.met(slow_readers.pair_leads(signs, one, other)))
            self.assertEqual(told, ("alike", pairs))
        else:
            self.assertEqual(told, ("unlike", slow_readers.best_row(tree)))

    def test_least_readers_are_same(self):
        chance = random.Random(33)
        for signs in slow.BOOKS:
            for moods in range(1, 7):
                one = made(Book(signs), some_plain(chance, signs, moods))
                told = same(one, least(one))
                self.assertEqual(told[0], "alike")
                self.assertIs(shows(one, least(one), told[1]), True)

    def test_even_heights_by_two_numbers(self):
        self.assertEqual(same(round_heights(4, [3]), round_heights(5, [3]))[0], "unlike")
        self.assertEqual(len(same(round_heights(4, [3]), round_heights(5, [3]))[1]), 45)
        self.assertEqual(len(same(round_heights(3, [0]), round_heights(5, [0]))[1]), 15)
        self.holds([("a", 0), ("f", 2)], plain_of(round_heights(4, [3])), plain_of(round_heights(5, [3])))

    def test_tree_of_200_signs_is_told(self):
        one, other = doubling(4, [0, 0, 1, 0, 0, 0]), doubling(5, [0, 0, 1, 0, 0, 0])
        told = same(made(Book(SIGNS), one), made(Book(SIGNS), other))
        self.assertEqual(told[0], "unlike")
        self.assertEqual(len(told[1]), 200)
        self.assertEqual(told[1], slow_readers.best_row(parting(SIGNS, one, other)))
        self.assertEqual(same(made(Book(SIGNS), other), made(Book(SIGNS), one)), told)

    def test_tree_of_more_than_200_signs_is_not_told(self):
        for liked, size in (([1], 201), ([4, 5], 207)):
            one, other = doubling(4, [0] * 6)[:2] + (liked,), doubling(5, [0] * 6)[:2] + (liked,)
            self.assertEqual(parting(SIGNS, one, other)[0], size)
            self.refused("TooGreat", same, made(Book(SIGNS), one), made(Book(SIGNS), other))
            self.refused("TooGreat", same, made(Book(SIGNS), other), made(Book(SIGNS), one))
            self.assertEqual(same(made(Book(SIGNS), one), made(Book(SIGNS), one))[0], "alike")

    def test_paper_is_the_askers_own(self):
        one = Reader(BOOK, 2, [[0], [1, 0], [0, 1, 1, 0]], [1])
        told = same(one, one)
        told[1].append((5, 5))
        told[1][0] = (7, 7)
        self.assertEqual(same(one, one), ("alike", [(0, 0), (1, 1)]))
        self.assertIsInstance(told, tuple)


class ShowsTest(HandTest):
    def setUp(self):
        # By two and by four signs g are counted: the pairs are (0, 0), (0, 2), (1, 1) and (1, 3).
        signs = slow.BOOKS[1]
        self.one = made(BOOK, counting(signs, 1, 2, [1]))
        self.other = made(BOOK, counting(signs, 1, 4, [1, 3]))
        self.pairs = [(0, 0), (0, 2), (1, 1), (1, 3)]

    def test_told_pairs_show_it(self):
        self.assertEqual(same(self.one, self.other), ("alike", self.pairs))
        self.assertIs(shows(self.one, self.other, self.pairs), True)
        self.assertIs(shows(self.other, self.one, self.pairs), False)
        self.assertIs(shows(self.other, self.one, [(there, here) for here, there in self.pairs]), True)

    def test_another_order_and_pairs_twice(self):
        self.assertIs(shows(self.one, self.other, self.pairs[::-1]), True)
        self.assertIs(shows(self.one, self.other, self.pairs + self.pairs), True)
        self.assertIs(shows(self.one, self.other, self.pairs[1:] + self.pairs[:1] * 3), True)
        self.assertIs(shows(self.one, self.other, self.pairs * 25), True)

    def test_pair_left_out(self):
        for place in range(4):
            self.assertIs(shows(self.one, self.other, self.pairs[:place] + self.pairs[place + 1:]), False)

    def test_pair_put_in(self):
        for here in range(-1, 3):
            for there in range(-1, 5):
                wanted = (here, there) in self.pairs
                self.assertIs(shows(self.one, self.other, self.pairs + [(here, there)]), wanted)
                self.assertIs(shows(self.one, self.other, [(here, there)] + self.pairs), wanted)

    def test_more_pairs_than_those_of_the_paper(self):
        # Mood 2 of the one is not met, and leads to mood 1: (2, 1) may stand in the list.
        one = Reader(BOOK, 3, [[0], [1, 1, 1], [1] * 9], [1, 2])
        other = Reader(BOOK, 2, [[0], [1, 1], [1] * 4], [1])
        self.assertEqual(same(one, other), ("alike", [(0, 0), (1, 1)]))
        self.assertIs(shows(one, other, [(0, 0), (1, 1), (2, 1)]), True)
        self.assertIs(shows(one, other, [(2, 1), (1, 1), (0, 0)]), True)
        self.assertIs(shows(one, other, [(0, 0), (1, 1), (2, 0)]), False)
        self.assertIs(shows(one, other, [(0, 0), (2, 1)]), False)

    def test_moods_out_of_bounds(self):
        for mood in (2, 3, 4) + OUTSIDE:
            self.assertIs(shows(self.one, self.other, self.pairs + [(mood, 1)]), False)
            self.assertIs(shows(self.one, self.other, [(mood, mood)]), False)
            self.assertIs(shows(self.one, self.other, [(mood, 0)] + self.pairs), False)
        for mood in (4, 5) + OUTSIDE:
            self.assertIs(shows(self.one, self.other, self.pairs + [(1, mood)]), False)
            self.assertIs(shows(self.one, self.other, [(0, mood)] + self.pairs), False)
        # Told from behind, -1 would be a mood that fits.
        single = Reader(BOOK, 1, [[0], [0], [0]], [])
        self.assertIs(shows(single, single, [(0, 0)]), True)
        self.assertIs(shows(single, single, [(0, 0), (-1, -1)]), False)
        self.assertIs(shows(single, single, [(-1, 0)]), False)

    def test_empty_list_shows_nothing(self):
        self.assertIs(shows(self.one, self.other, []), False)
        none = Reader(BOOK, 1, [[0], [0], [0]], [])
        self.assertIs(shows(none, none, []), False)

    def test_all_pairs(self):
        every = [(here, there) for here in range(2) for there in range(4)]
        self.assertIs(shows(self.one, self.other, every), False)
        none = [made(BOOK, counting(slow.BOOKS[1], 1, moods, [])) for moods in (2, 4)]
        self.assertIs(shows(none[0], none[1], every), True)
        signs = slow.BOOKS[3]
        for liked in ([], list(range(6))):
            six = [made(Book(signs), some_plain(random.Random(34), signs, 6)[:2] + (liked,)) for _ in range(2)]
            pairs = [(here, there) for here in range(6) for there in range(6)]
            self.assertIs(shows(six[0], six[1], pairs), True)

    def test_unfair_pairs_show_nothing_though_closed(self):
        one = Reader(BOOK, 1, [[0], [0], [0]], [])
        other = Reader(BOOK, 1, [[0], [0], [0]], [0])
        self.assertIs(shows(one, other, [(0, 0)]), False)
        self.assertIs(shows(other, one, [(0, 0)]), False)
        self.assertIs(shows(other, other, [(0, 0)]), True)

    def test_readers_that_are_not_same(self):
        other = made(BOOK, counting(slow.BOOKS[1], 1, 4, [1]))
        self.assertIs(shows(self.one, other, self.pairs), False)
        self.assertIs(shows(self.one, other, self.pairs[:3]), False)
        self.assertIs(shows(self.one, made(BOOK, counting(slow.BOOKS[1], 0, 4, [1, 3])), self.pairs), False)

    def test_same_as_the_slow_way_for_all_lists(self):
        chance = random.Random(35)
        for signs in (slow.BOOKS[0], slow.BOOKS[1], slow.BOOKS[2], [("a", 0), ("g", 1)]):
            for moods in (1, 2, 2, 3):
                one = some_plain(chance, signs, 2)
                other = some_plain(chance, signs, moods)
                for plain in (other, slow_readers.least(signs, one)):
                    self.all_lists(signs, one, plain)

    def all_lists(self, signs, one, other):
        every = list(slow.product(range(one[0]), range(other[0])))
        here, there = made(Book(signs), one), made(Book(signs), other)
        for chosen in slow.product((False, True), repeat=len(every)):
            pairs = [pair for pair, is_in in zip(every, chosen) if is_in]
            told = shows(here, there, pairs)
            self.assertIs(told, slow_readers.shows(signs, one, other, pairs))
            if told:
                self.assertEqual(same(here, there)[0], "alike")

    def test_list_is_the_same_behind_the_call(self):
        for pairs in ([], self.pairs + [(1, 1), (0, 0)], [(9, 9), (-1, 0)], [(0, 0), (1, 0)]):
            told = list(pairs)
            shows(self.one, self.other, told)
            self.assertEqual(told, pairs)

    def test_told_pairs_of_readers_of_many_moods(self):
        signs = slow.BOOKS[1]
        one, other = made(BOOK, counting(signs, 0, 6, [])), made(BOOK, counting(signs, 1, 6, []))
        paper = same(one, other)
        self.assertEqual(len(paper[1]), 36)
        self.assertIs(shows(one, other, paper[1]), True)
        self.assertIs(shows(one, other, paper[1][:-1]), False)
        self.assertIs(shows(one, other, paper[1][1:]), False)


if __name__ == "__main__":
    unittest.main()
