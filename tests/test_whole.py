"""Points 1, 2, 9, 10 and 13 over the whole program: all that is asked, in any order and again."""

import random
import unittest

import slow
from given import BOOK, GREAT, LEAF, TREE, TWO, HandTest, made, plain_of, rows_of, some_plain, some_rows
from treehands import counts, desk, guesses, lands, notes, paths, patterns, sets, trees, turners
from treehands.readers import Reader
from treehands.signs import Book
from treehands.turners import Turner

SIGNS = slow.BOOKS[1]
RULES = [(0, (), 0), (1, (0,), 0), (2, (0, 0), 0), (1, (0,), 1), (2, (0, 1), 1)]


def seen(told):
    """What was told, so that it may be held against what is told another time."""
    if isinstance(told, Reader):
        return ("reader", plain_of(told))
    if isinstance(told, Turner):
        return ("turner", rows_of(told))
    if isinstance(told, Book):
        return ("book", [(told.name(sign), told.kids(sign)) for sign in range(told.many())])
    if isinstance(told, list):
        return [seen(thing) for thing in told]
    if isinstance(told, tuple):
        return tuple(seen(thing) for thing in told)
    return told


def spoil(told):
    """Change all lists that were told, and those that are in them."""
    if isinstance(told, tuple):
        for thing in told:
            spoil(thing)
    if isinstance(told, list):
        for thing in told:
            spoil(thing)
        told.append("more")
        told.reverse()
        del told[1:]


class Things:
    """All that is handed in, with all questions to it."""

    def __init__(self, seed):
        chance = random.Random(seed)
        self.one = made(BOOK, some_plain(chance, SIGNS, 3))
        self.other = made(BOOK, some_plain(chance, SIGNS, 2))
        self.wide = made(BOOK, some_plain(chance, SIGNS, 5))
        self.turner = Turner(BOOK, BOOK, some_rows(chance, SIGNS, SIGNS, 2, 3))
        self.next = Turner(BOOK, BOOK, some_rows(chance, SIGNS, SIGNS, 3, 2))
        self.guesser = guesses.Guesser(BOOK, 2, RULES, [1])
        self.desk = desk.Desk(BOOK)
        self.pairs = [(0, 0), (1, 1)]
        self.rows = [(0, (0, 0)), (1, (1, 1))]
        self.weights = [3, 0, 2]

    def questions(self):
        one, other, wide, turner = self.one, self.other, self.wide, self.turner
        tree = (2, 1, 0, 2, 0, 1, 0)
        return [
            BOOK.many, lambda: BOOK.name(1), lambda: BOOK.kids(2), lambda: BOOK.number("g"), lambda: BOOK.is_like(TWO),
            lambda: trees.is_tree(BOOK, tree), lambda: trees.kids_of(BOOK, tree), lambda: trees.height(BOOK, tree),
            lambda: trees.parts(BOOK, tree), lambda: trees.ahead(BOOK, tree, TREE), lambda: trees.places(BOOK, tree),
            lambda: trees.at(BOOK, tree, (1,)), lambda: trees.put(BOOK, tree, (0,), TREE),
            one.book, one.moods, lambda: one.table(2), one.liked, lambda: one.mood(tree), lambda: one.likes(tree),
            lambda: sets.joined(one, other), lambda: sets.met(one, wide), lambda: sets.less(wide, other),
            lambda: sets.about(one), lambda: sets.least(wide), lambda: sets.first_to(wide), lambda: sets.first(one),
            lambda: sets.same(one, other), lambda: sets.same(one, one), lambda: sets.shows(one, other, self.pairs),
            lambda: self.guesser.moods_of(tree), lambda: self.guesser.likes(tree), self.guesser.reader,
            lambda: patterns.is_pattern(BOOK, (2, -1, 0)), lambda: patterns.fits(BOOK, (2, -1, 0), tree),
            lambda: patterns.fitting(BOOK, (2, -1, 0)), lambda: patterns.holding(BOOK, (1, 0)),
            lambda: counts.many(wide, 20), lambda: counts.all_many(one), lambda: counts.tree_at(self.every(), 12345),
            lambda: counts.number_of(self.every(), tree), lambda: counts.cheapest(wide, self.weights),
            lambda: paths.shut(one), lambda: paths.beside(one), turner.book, turner.goals, turner.states,
            lambda: turner.row(1, 2), lambda: turners.turned(turner, TREE), lambda: turners.size_turned(turner, tree),
            lambda: turners.part_turned(turner, tree, ()), lambda: turners.behind(turner, self.next),
            lambda: turners.idle(BOOK), lambda: turners.again(turners.idle(BOOK), tree, 20),
            lambda: turners.parted(turner, self.next, 4), lambda: lands.before(turner, one),
            lambda: lands.back(turner, (1, 0)), lambda: lands.lands(turner, one, other),
            lambda: lands.lands(turners.idle(BOOK), one, one), lambda: lands.shows_lands(turner, one, other, self.rows),
            lambda: notes.tree_text(BOOK, tree), lambda: notes.pattern_text(BOOK, (2, -1, 0)),
            lambda: notes.reader_text(wide), lambda: notes.turner_text(turner), lambda: notes.tree_read(BOOK, "f(a,g(a))"),
            lambda: notes.pattern_read(BOOK, "f(_,a)"), lambda: notes.reader_read(BOOK, "2 / 1 / 0 ; 1 0 ; 0 1 1 0"),
            lambda: notes.turner_read(BOOK, BOOK, "a ; g(0.0) ; f(0.1,0.0)"), lambda: self.desk.say("names"),
            lambda: self.desk.say("like x f(_,a)"), lambda: self.desk.say("show x"), lambda: self.desk.say("many x 9"),
        ]

    def every(self):
        return Reader(BOOK, 1, [[0], [0], [0]], [0])


class WholeTest(HandTest):
    def test_each_question_asked_again_behind_others_tells_the_same(self):
        for seed in range(4):
            things = Things(seed)
            self.assertEqual(things.desk.say("like x _"), "ok")
            questions = things.questions()
            told = {}
            for number, ask in enumerate(questions):
                told[number] = seen(ask())
            chance = random.Random(seed)
            for _ in range(3):
                order = list(range(len(questions) - 3))
                chance.shuffle(order)
                for number in order:
                    self.assertEqual(seen(questions[number]()), told[number])

    def test_what_is_told_is_the_askers_own(self):
        things = Things(5)
        things.desk.say("like x f(_,a)")
        questions = things.questions()
        told = [seen(ask()) for ask in questions]
        for ask in questions:
            spoil(ask())
        self.assertEqual([seen(ask()) for ask in questions], told)

    def test_what_is_handed_in_stays(self):
        things = Things(6)
        things.desk.say("like x _")
        before = seen([things.one, things.other, things.wide, things.turner, things.next, BOOK, TWO])
        for ask in things.questions():
            ask()
        self.assertEqual(seen([things.one, things.other, things.wide, things.turner, things.next, BOOK, TWO]), before)
        self.assertEqual((things.pairs, things.rows, things.weights), ([(0, 0), (1, 1)], [(0, (0, 0)), (1, (1, 1))],
                                                                       [3, 0, 2]))

    def test_things_told_of_one_and_the_same_list(self):
        # One list is a table twice and the liked moods, one list of tables makes two readers.
        table = [0, 1]
        signs = [("a", 0), ("g", 1), ("h", 1)]
        tables = [[0], table, table]
        one = Reader(Book(signs), 2, tables, table)
        other = Reader(Book(signs), 2, tables, table)
        self.assertEqual(sets.same(one, other)[0], "alike")
        table[1] = 0
        self.assertEqual(plain_of(one), (2, [[0], [0, 1], [0, 1]], [0, 1]))
        tables.clear()
        signs.pop()
        self.assertEqual(plain_of(other), plain_of(one))
        self.assertEqual(one.book().many(), 3)
        one.table(1).clear()
        self.assertEqual(one.table(2), [0, 1])

    def test_made_rows_and_rules_of_one_list(self):
        made_rows = [(0,), ((0, 0),), (2, (0, 0), (0, 1))]
        turner = Turner(BOOK, BOOK, [made_rows, made_rows, made_rows])
        rules = list(RULES)
        one = guesses.Guesser(BOOK, 2, rules, [1])
        other = guesses.Guesser(BOOK, 2, rules, [0, 1])
        made_rows[0] = (1, 0)
        rules.clear()
        self.assertEqual(turners.turned(turner, TREE), (2, 0, 0))
        self.assertEqual((one.moods_of((1, 0)), other.moods_of((1, 0))), ([0, 1], [0, 1]))

    def test_what_was_told_is_handed_in_again(self):
        chance = random.Random(7)
        for _ in range(5):
            one, other = [made(BOOK, some_plain(chance, SIGNS, 2)) for _ in range(2)]
            turner = Turner(BOOK, BOOK, some_rows(chance, SIGNS, SIGNS, 2, 3))
            told = sets.joined(one, other)
            for reader in (told, patterns.fitting(BOOK, (1, -1)), paths.shut(one), lands.before(turner, one),
                           guesses.Guesser(BOOK, 2, RULES, [1]).reader(), sets.about(told)):
                self.assertEqual(plain_of(sets.least(reader)), plain_of(reader))
                if reader.moods() <= 6:
                    paper = sets.same(reader, sets.about(sets.about(reader)))
                    self.assertIs(sets.shows(reader, reader, paper[1]), True)
                    self.assertIsNotNone(counts.many(reader, 3))
                    text = notes.reader_text(reader)
                    self.assertEqual(plain_of(notes.reader_read(BOOK, text)), plain_of(reader))
            if sets.about(one).moods() <= 3:
                paper = lands.lands(turner, sets.about(one), patterns.fitting(BOOK, (-1,)))
                self.assertIs(lands.shows_lands(turner, sets.about(one), patterns.fitting(BOOK, (-1,)), paper[1]), True)

    def test_the_first_refusal_that_is_due(self):
        one = Reader(BOOK, 1, [[0], [0], [0]], [])
        foreign = Reader(TWO, 1, [[0], [0], [0]], [])
        turner, abroad = turners.idle(BOOK), Turner(BOOK, TWO, [[(1,), (1,), (1,)]])
        for name, call, told in (
                ("NoTree", trees.ahead, (BOOK, (9,), (8,))), ("NoTree", trees.at, (BOOK, (9,), (7,))),
                ("NoPlace", trees.put, (BOOK, TREE, (9,), (9,))), ("NoTree", trees.put, (BOOK, (), (9,), (9,))),
                ("NoPattern", patterns.fits, (BOOK, (), ())), ("NoTree", counts.number_of, (one, (9,))),
                ("NoNumber", counts.number_of, (one, LEAF)), ("Unlike", sets.shows, (one, foreign, [(9, 9)])),
                ("NoTree", turners.part_turned, (turner, (9,), (9,))), ("NoPlace", turners.part_turned, (turner, LEAF, (9,))),
                ("Unlike", turners.again, (abroad, (9,), GREAT)), ("NoTree", turners.again, (turner, (9,), GREAT)),
                ("NoNumber", turners.again, (turner, LEAF, GREAT)), ("Unlike", turners.parted, (turner, abroad, GREAT)),
                ("NoNumber", turners.parted, (turner, turner, GREAT)), ("Unlike", lands.before, (abroad, one)),
                ("NoTree", lands.back, (abroad, (9,))), ("Unlike", lands.lands, (turner, foreign, one)),
                ("Unlike", lands.shows_lands, (abroad, one, one, [(9, ())]))):
            self.refused(name, call, *told)


if __name__ == "__main__":
    unittest.main()
