"""Point 15, and points 1, 2 and 4 where they are about guessers."""

import random
import unittest

import slow
import slow_readers
from given import (BOOK, COMB, GREAT, LEAF, NO_TREES, OUTSIDE, PATH, TREE, HandTest, plain_of, some_moods,
                   some_rules, some_tree)
from treehands.guesses import Guesser
from treehands.readers import Reader
from treehands.sets import least, same
from treehands.signs import Book

# Comes to mood 1 where sign g stands somewhere, and to mood 0 always.
RULES = [(0, (), 0), (1, (0,), 0), (2, (0, 0), 0), (1, (0,), 1), (1, (1,), 1), (2, (0, 1), 1), (2, (1, 0), 1)]


class GuesserTest(HandTest):
    def test_guesser_of_several_moods(self):
        guesser = Guesser(BOOK, 2, RULES, [1])
        self.assertEqual(guesser.moods_of(LEAF), [0])
        self.assertEqual(guesser.moods_of((2, 0, 0)), [0])
        self.assertEqual(guesser.moods_of((1, 0)), [0, 1])
        self.assertEqual(guesser.moods_of((2, 0, 1, 0)), [0, 1])
        self.assertIs(guesser.likes(TREE), True)
        self.assertIs(guesser.likes((2, 0, 2, 0, 0)), False)

    def test_no_rule_fits(self):
        guesser = Guesser(BOOK, 2, [(0, (), 1), (1, (0,), 1)], [0, 1])
        self.assertEqual(guesser.moods_of(LEAF), [1])
        self.assertEqual(guesser.moods_of((1, 0)), [])
        self.assertEqual(guesser.moods_of((2, 0, 0)), [])
        self.assertEqual(guesser.moods_of(PATH), [])
        self.assertEqual(guesser.moods_of(COMB), [])
        self.assertIs(guesser.likes(LEAF), True)
        self.assertIs(guesser.likes((1, 0)), False)
        self.assertIs(guesser.likes((2, 0, 0)), False)

    def test_moods_rise_and_come_once(self):
        rules = [(0, (), 4), (0, (), 1), (0, (), 3), (0, (), 1), (0, (), 4), (1, (3,), 2), (1, (4,), 2), (1, (1,), 0)]
        guesser = Guesser(BOOK, 5, rules, [])
        self.assertEqual(guesser.moods_of(LEAF), [1, 3, 4])
        self.assertEqual(guesser.moods_of((1, 0)), [0, 2])

    def test_first_kids_mood_stands_first(self):
        guesser = Guesser(BOOK, 3, [(0, (), 0), (1, (0,), 1), (2, (0, 1), 2)], [2])
        self.assertIs(guesser.likes((2, 0, 1, 0)), True)
        self.assertIs(guesser.likes((2, 1, 0, 0)), False)

    def test_moods_of_one_kid_do_not_come_from_another_way_through_it(self):
        # f wants 0 and 1, or 1 and 0: where both kids come to mood 0 alone it comes to none.
        guesser = Guesser(BOOK, 2, [(0, (), 0), (1, (0,), 0), (1, (0,), 1), (2, (0, 1), 0), (2, (1, 0), 0)], [0])
        self.assertEqual(guesser.moods_of((2, 0, 0)), [])
        self.assertEqual(guesser.moods_of((2, 0, 1, 0)), [0])
        self.assertEqual(guesser.moods_of((2, 1, 0, 1, 0)), [0])

    def test_guesser_of_one_mood_and_one_rule(self):
        guesser = Guesser(BOOK, 1, [(0, (), 0)], [0])
        self.assertEqual((guesser.moods_of(LEAF), guesser.moods_of((1, 0))), ([0], []))
        self.assertIs(guesser.likes(LEAF), True)
        self.assertIs(guesser.likes((1, 0)), False)
        # Without a rule for a leaf nothing comes to a mood.
        self.assertIs(Guesser(BOOK, 1, [(1, (0,), 0)], [0]).likes((1, 0)), False)

    def test_none_liked(self):
        guesser = Guesser(BOOK, 2, RULES, [])
        for tree in (LEAF, TREE, PATH, COMB):
            self.assertIs(guesser.likes(tree), False)
        self.assertEqual(guesser.moods_of(TREE), [0, 1])

    def test_thirty_rules_and_a_rule_twice(self):
        signs = [("a", 0), ("f", 2)]
        rules = [(0, (), 0)] + [(1, (here, there), (here + there + 1) % 5) for here in range(5) for there in range(5)]
        guesser = Guesser(Book(signs), 5, rules + rules[:4], [2])
        self.assertEqual(guesser.moods_of((1, 0, 0)), [1])
        self.assertEqual(guesser.moods_of((1, 1, 0, 0, 0)), [2])
        self.assertEqual(Guesser(Book(signs), 1, [(0, (), 0)] * 30, []).moods_of((0,)), [0])

    def test_same_as_all_trees_grown(self):
        chance = random.Random(41)
        for signs, size in zip(slow.BOOKS, (2, 6, 6, 4)):
            trees = slow.grown_to(signs, size)
            for moods in range(1, 6):
                for many in (1, 4, 12, 30):
                    rules, liked = some_rules(chance, signs, moods, many), some_moods(chance, moods)
                    guesser = Guesser(Book(signs), moods, rules, liked)
                    for tree in trees:
                        wanted = sorted(slow_readers.guessed(rules, tree))
                        self.assertEqual(guesser.moods_of(slow.row(tree)), wanted)
                        self.assertIs(guesser.likes(slow.row(tree)), any(mood in liked for mood in wanted))

    def test_trees_of_40_signs_with_very_many_ways(self):
        # Each sign g may lead to each mood from each mood: 3 to the power of 39 ways go through the path.
        rules = [(0, (), 0)] + [(1, (here,), there) for here in range(3) for there in range(3)]
        rules.extend([(2, (here, there), (here + there) % 3) for here in range(3) for there in range(3)])
        guesser = Guesser(BOOK, 3, rules, [2])
        self.assertEqual((len(PATH), len(COMB)), (40, 40))
        self.assertEqual(guesser.moods_of(PATH), [0, 1, 2])
        self.assertEqual(guesser.moods_of(COMB), [0, 1, 2])
        self.assertEqual(guesser.moods_of((2, 0) * 19 + (0,)), [0])
        full = (1, 1, 0)
        for _ in range(3):
            full = (2,) + full + full
        self.assertEqual(guesser.moods_of((1,) * 9 + full), [0, 1, 2])
        self.assertIs(guesser.likes(PATH), True)
        chance = random.Random(42)
        for _ in range(20):
            tree = some_tree(chance, slow.BOOKS[1], 40)
            self.assertEqual(guesser.moods_of(slow.row(tree)), sorted(slow_readers.guessed(rules, tree)))

    def test_no_trees(self):
        guesser = Guesser(BOOK, 2, RULES, [1])
        for wrong in NO_TREES:
            self.refused("NoTree", guesser.moods_of, wrong)
            self.refused("NoTree", guesser.likes, wrong)


class OwnListsTest(HandTest):
    def test_lists_are_not_changed(self):
        rules, liked = list(RULES), [1]
        guesser = Guesser(BOOK, 2, rules, liked)
        guesser.moods_of(TREE)
        guesser.likes(TREE)
        guesser.reader()
        self.assertEqual((rules, liked), (RULES, [1]))

    def test_lists_are_not_kept(self):
        rules, liked = list(RULES), [1]
        guesser = Guesser(BOOK, 2, rules, liked)
        before = plain_of(guesser.reader())
        rules[0] = (0, (), 1)
        del rules[3:]
        liked[0] = 0
        liked.append(1)
        self.assertEqual(guesser.moods_of(LEAF), [0])
        self.assertEqual(guesser.moods_of(TREE), [0, 1])
        self.assertIs(guesser.likes(LEAF), False)
        self.assertIs(guesser.likes(TREE), True)
        self.assertEqual(plain_of(guesser.reader()), before)

    def test_told_lists_are_the_askers_own(self):
        guesser = Guesser(BOOK, 2, RULES, [1])
        guesser.moods_of(TREE).clear()
        self.assertEqual(guesser.moods_of(TREE), [0, 1])
        told = guesser.reader()
        before = plain_of(told)
        told.table(2).clear()
        told.liked().append(3)
        self.assertEqual(plain_of(told), before)
        self.assertEqual(plain_of(guesser.reader()), before)


class NoGuesserTest(HandTest):
    def no_guesser(self, moods, rules, liked):
        self.refused("NoGuesser", Guesser, BOOK, moods, rules, liked)

    def test_numbers_of_moods_out_of_bounds(self):
        for moods in (0, 6, 7) + OUTSIDE:
            self.no_guesser(moods, [(0, (), 0)], [])
            self.no_guesser(moods, RULES, [1])
            self.no_guesser(moods, [], [])
        self.assertEqual(Guesser(BOOK, 5, RULES, [4]).moods_of(LEAF), [0])

    def test_too_few_or_too_many_rules(self):
        self.no_guesser(1, [], [])
        self.no_guesser(5, [], [0])
        self.no_guesser(1, [(0, (), 0)] * 31, [])
        self.no_guesser(2, RULES * 5, [])
        self.no_guesser(1, [(0, (), 0)] * 100, [])

    def test_rules_of_no_sign(self):
        for sign in (3, 4) + OUTSIDE:
            for kids in ((), (0,), (0, 0)):
                self.no_guesser(2, [(sign, kids, 0)], [])
                self.no_guesser(2, RULES + [(sign, kids, 0)], [1])

    def test_rules_of_no_mood(self):
        for mood in (2, 3) + OUTSIDE:
            self.no_guesser(2, [(0, (), mood)], [])
            self.no_guesser(2, RULES + [(1, (0,), mood)], [1])
            self.no_guesser(2, RULES + [(2, (0, 1), mood)], [1])

    def test_rules_with_a_kid_of_no_mood(self):
        for mood in (2, 3) + OUTSIDE:
            self.no_guesser(2, RULES + [(1, (mood,), 0)], [1])
            self.no_guesser(2, RULES + [(2, (mood, 1), 0)], [1])
            self.no_guesser(2, RULES + [(2, (1, mood), 0)], [1])
            self.no_guesser(2, [(1, (mood,), 0)] + RULES, [1])

    def test_rules_with_another_number_of_kids(self):
        for sign, kids in ((0, (0,)), (0, (0, 0)), (1, ()), (1, (0, 0)), (2, ()), (2, (0,)), (2, (0, 0, 0)),
                           (1, (0,) * 100)):
            self.no_guesser(2, RULES + [(sign, kids, 0)], [1])
            self.no_guesser(2, [(sign, kids, 0)], [1])

    def test_liked_moods_out_of_order_or_bounds(self):
        rules = [(0, (), 0)]
        for liked in ([1, 0], [0, 2, 1], [0, 0], [2, 2], [0, 1, 1], [3], [0, 3], [-1], [-1, 0], [0, -1], [-3]):
            self.no_guesser(3, rules, liked)
        for mood in OUTSIDE:
            self.no_guesser(3, rules, [mood])
            self.no_guesser(3, rules, [0, mood])
            self.no_guesser(3, rules, [mood, 0])
        self.no_guesser(1, rules, [1])

    def test_several_faults_at_once(self):
        self.no_guesser(0, [], [-1])
        self.no_guesser(GREAT, [(GREAT, (), GREAT)] * 31, [GREAT])


class ReaderTest(HandTest):
    def test_known_reader(self):
        told = Guesser(BOOK, 2, RULES, [1]).reader()
        self.assertEqual(plain_of(told), (2, [[0], [1, 1], [0, 1, 1, 1]], [1]))
        self.assertIsInstance(told, Reader)
        self.assertIs(told.book().is_like(BOOK), True)

    def test_no_rule_fits(self):
        told = Guesser(BOOK, 1, [(0, (), 0)], [0]).reader()
        self.assertEqual(plain_of(told), (2, [[0], [1, 1], [1] * 4], [0]))
        self.assertEqual(plain_of(Guesser(BOOK, 1, [(1, (0,), 0)], [0]).reader()), (1, [[0], [0], [0]], []))
        self.assertEqual(plain_of(Guesser(BOOK, 2, RULES, []).reader()), (1, [[0], [0], [0]], []))
        self.assertEqual(plain_of(Guesser(BOOK, 2, RULES, [0]).reader()), (1, [[0], [0], [0]], [0]))

    def test_set_of_the_guesser(self):
        chance = random.Random(43)
        for signs, size in zip(slow.BOOKS, (2, 6, 6, 4)):
            trees = slow.grown_to(signs, size)
            for moods in range(1, 6):
                for many in (3, 10, 30):
                    guesser = Guesser(Book(signs), moods, some_rules(chance, signs, moods, many),
                                      some_moods(chance, moods))
                    told = guesser.reader()
                    for tree in trees:
                        self.assertIs(told.likes(slow.row(tree)), guesser.likes(slow.row(tree)))
                    if len(signs) > 2:
                        self.assertEqual(plain_of(told), slow_readers.least(signs, plain_of(told)))

    def test_trees_of_40_signs(self):
        chance = random.Random(44)
        for signs in (slow.BOOKS[1], slow.BOOKS[3]):
            for moods in (3, 4, 5):
                guesser = Guesser(Book(signs), moods, some_rules(chance, signs, moods, 25), [0, moods - 1])
                told = guesser.reader()
                for _ in range(20):
                    row = slow.row(some_tree(chance, signs, 40))
                    self.assertIs(told.likes(row), guesser.likes(row))

    def test_guesser_of_five_moods_with_16_moods_of_its_reader(self):
        # Likes paths whose fourth sign from the top is h: from the leaf it has to guess which h that is.
        signs = [("a", 0), ("g", 1), ("h", 1)]
        rules = [(0, (), 0), (1, (0,), 0), (2, (0,), 0), (2, (0,), 1)]
        rules.extend([(sign, (mood,), mood + 1) for sign in (1, 2) for mood in (1, 2, 3)])
        guesser = Guesser(Book(signs), 5, rules, [4])
        told = guesser.reader()
        self.assertEqual(told.moods(), 16)
        self.assertEqual(plain_of(told), slow_readers.least(signs, plain_of(told)))
        for row in slow.product((1, 2), repeat=7):
            self.assertIs(told.likes(row + (0,)), row[3] == 2)
            self.assertIs(guesser.likes(row + (0,)), row[3] == 2)

    def test_guesser_of_five_moods_with_32_moods_of_its_reader(self):
        # Sign g turns all moods round, h lets mood 0 come to mood 1 too, k lets mood 0 go.
        signs = [("a", 0), ("g", 1), ("h", 1), ("k", 1)]
        rules = [(0, (), 0), (2, (0,), 0), (2, (0,), 1)]
        rules.extend([(1, (mood,), (mood + 1) % 5) for mood in range(5)])
        rules.extend([(sign, (mood,), mood) for sign in (2, 3) for mood in range(1, 5)])
        told = Guesser(Book(signs), 5, rules, [0]).reader()
        self.assertEqual(told.moods(), 32)
        self.assertEqual(plain_of(told), slow_readers.least(signs, plain_of(told)))

    def test_reader_of_a_guesser_that_does_not_guess(self):
        # A reader written as rules has the reader's own least reader.
        tables = [[2], [1, 0, 1], [0, 1, 2, 1, 1, 0, 2, 0, 0]]
        rules = [(sign, kids, tables[sign][place]) for sign in range(3)
                 for place, kids in enumerate(slow.product(range(3), repeat=sign))]
        reader = Reader(BOOK, 3, tables, [1])
        told = Guesser(BOOK, 3, rules, [1]).reader()
        self.assertEqual(plain_of(told), plain_of(least(reader)))
        self.assertEqual(same(told, reader)[0], "alike")


if __name__ == "__main__":
    unittest.main()
