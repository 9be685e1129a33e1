"""Points 29 to 31, and points 1, 2 and 10 where they are about texts."""

import random
import unittest

import slow
import slow_notes
import slow_sets
from given import (BOOK, COMB, LEAF, NO_TREES, PATH, TREE, TWO, HandTest, counting, made, plain_of, rows_of, some_plain,
                   some_rows, some_tree)
from treehands.errors import NoText
from treehands.notes import (pattern_read, pattern_text, reader_read, reader_text, tree_read, tree_text, turner_read,
                             turner_text)
from treehands.readers import Reader
from treehands.sets import met
from treehands.signs import Book
from treehands.turners import Turner, behind, idle

# Signs that are put into texts and stand there instead of others: all that texts have, and more.
PUT = " \t\n\r()[],;./-_+'\"0123456789aAbfgzx*#{}\\~"
SIX = slow.BOOKS[3]
LONG_NAMES = [("a", 0), ("aa", 1), ("aaa", 2), ("ab", 0), ("b", 1), ("zzz", 2)]
TREES = ("a", "g(a)", "f(a,a)", "f(g(a),a)", "f(a,g(a))", "g(f(f(a,g(a)),a))")
PATTERNS = ("_", "a", "g(_)", "f(_,_)", "f(_,a)", "f(a,_)", "f(g(_),a)", "f(f(_,_),_)", "g(g(g(g(g(_)))))")
READERS = ("1 / - / 0 ; 0 ; 0", "1 / 0 / 0 ; 0 ; 0", "2 / 1 / 0 ; 1 0 ; 0 1 1 0", "2 / 0,1 / 1 ; 1 1 ; 0 0 0 1",
           "3 / 0,2 / 2 ; 1 2 0 ; 0 1 2 1 2 0 2 0 1")
TURNERS = ("a ; g(0.0) ; f(0.0,0.1)", "a ; f(0.0,0.0) ; f(0.1,0.0)", "a ; 1.0 ; 0.1 / g(a) ; 0.0 ; g(1.1)",
           "a ; a ; a / f(a,a) ; g(2.0) ; f(f(0.0,1.1),2.0) / a ; 0.0 ; g(g(g(0.1)))")
BLANKS = ("", " ", "  ", "\t", "\n", "\r\n", "\x0b")


def mutations(text):
    """Texts with one sign of a text left out, put in or put otherwise, and each part twice or not at all."""
    told = []
    for place in range(len(text) + 1):
        told.append(text[:place] + text[place + 1:])
        for sign in PUT:
            told.append(text[:place] + sign + text[place:])
            told.append(text[:place] + sign + text[place + 1:])
    for between in (" / ", " ; ", " ", ",", "(", ")"):
        words = text.split(between)
        for place in range(len(words)):
            told.append(between.join(words[:place] + words[place + 1:]))
            told.append(between.join(words[:place + 1] + words[place:]))
    return told


class NotesTest(HandTest):
    def read(self, call, *told):
        """What a call tells, or None where it refuses with NoText."""
        try:
            return call(*told)
        except NoText:
            return None

    def no_text(self, call, *told):
        self.refused("NoText", call, *told)


class TreeTextTest(NotesTest):
    def test_known_texts(self):
        self.assertEqual(tree_text(BOOK, LEAF), "a")
        self.assertEqual(tree_text(BOOK, TREE), "f(g(a),a)")
        self.assertEqual(tree_text(BOOK, (2, 0, 2, 1, 0, 0)), "f(a,f(g(a),a))")
        self.assertEqual(tree_text(TWO, (0, 1, 0, 2, 1)), "f(a,f(b,a))")
        self.assertEqual(tree_text(Book(LONG_NAMES), (2, 1, 3, 5, 0, 4, 0)), "aaa(aa(ab),zzz(a,b(a)))")
        for text, row in zip(TREES, ((0,), (1, 0), (2, 0, 0), TREE, (2, 0, 1, 0), (1, 2, 2, 0, 1, 0, 0))):
            self.assertEqual((tree_text(BOOK, row), tree_read(BOOK, text)), (text, row))

    def test_written_and_read_again(self):
        chance = random.Random(131)
        for signs, size in zip(slow.BOOKS + (LONG_NAMES,), (2, 6, 6, 4, 4)):
            trees = slow.grown_to(signs, size)
            if len(signs) > 1 and signs != slow.BOOKS[2]:
                trees.extend(some_tree(chance, signs, many) for many in (10, 20, 39, 40))
            for tree in trees:
                text = tree_text(Book(signs), slow.row(tree))
                self.assertEqual(slow_notes.tree(signs, text), slow.row(tree))
                self.assertEqual(tree_read(Book(signs), text), slow.row(tree))

    def test_trees_of_40_and_41_signs(self):
        for row in (PATH, COMB):
            self.assertEqual(tree_read(BOOK, tree_text(BOOK, row)), row)
        self.assertEqual(tree_text(BOOK, PATH), "g(" * 39 + "a" + ")" * 39)
        self.no_text(tree_read, BOOK, "g(" * 40 + "a" + ")" * 40)
        self.no_text(tree_read, BOOK, "f(a," * 20 + "a" + ")" * 20)
        self.no_text(tree_read, BOOK, "g(" * 1300 + "a" + ")" * 1300)
        self.no_text(tree_read, BOOK, "f(a," * 700 + "a" + ")" * 700)
        self.no_text(tree_read, BOOK, "(" * 4000)
        self.no_text(tree_read, BOOK, "g(" * 2000)

    def test_one_sign_otherwise(self):
        for text in TREES:
            for told in mutations(text):
                self.assertEqual(self.read(tree_read, BOOK, told), slow_notes.tree(slow.BOOKS[1], told))
        for told in mutations("aaa(aa(ab),zzz(a,b(a)))"):
            self.assertEqual(self.read(tree_read, Book(LONG_NAMES), told), slow_notes.tree(LONG_NAMES, told))

    def test_no_texts(self):
        for text in BLANKS + ("b", "A", "g", "f", "g()", "f(a)", "f(a,)", "f(,a)", "f(a,a,a)", "a()", "a(a)", "(a)",
                              "f((a),a)", "f(a;a)", "f[a,a]", "g(a", "ga)", "g a", "g(a))", "f(a,a)a", "aa", "0", "1(0)",
                              "_", "g(_)", "0.0", "g(0.0)", "f(a a)", "f(a,,a)", "f,a,a", "f(a(a))", "fgaa", "f(ga,a)",
                              "-", "a / a", "a ; a", "a,a", "f(a,a),a", ",a", "a,"):
            self.no_text(tree_read, BOOK, text)
        for text in TREES:
            for blank in BLANKS[1:]:
                for told in (text + blank, blank + text, text.replace(",", "," + blank), text.replace("(", "(" + blank)):
                    if told != text:
                        self.no_text(tree_read, BOOK, told)
            self.no_text(tree_read, BOOK, text.upper())
            self.no_text(tree_read, BOOK, text + text)

    def test_texts_by_another_book(self):
        self.no_text(tree_read, TWO, "g(a)")
        self.assertEqual(tree_read(TWO, "f(a,b)"), (0, 1, 2))
        self.no_text(tree_read, BOOK, "f(a,b)")

    def test_no_trees(self):
        for wrong in NO_TREES:
            self.refused("NoTree", tree_text, BOOK, wrong)


class PatternTextTest(NotesTest):
    def test_known_texts(self):
        for text, numbers in zip(PATTERNS, ((-1,), (0,), (1, -1), (2, -1, -1), (2, -1, 0), (2, 0, -1), (2, 1, -1, 0),
                                            (2, 2, -1, -1, -1), (1, 1, 1, 1, 1, -1))):
            self.assertEqual((pattern_text(BOOK, numbers), pattern_read(BOOK, text)), (text, numbers))

    def test_written_and_read_again(self):
        for signs, many in zip(slow.BOOKS + (LONG_NAMES,), (3, 6, 6, 3, 3)):
            for size in range(1, many + 1):
                for numbers in slow.product(range(-1, len(signs)), repeat=size):
                    if slow_sets.is_pattern(signs, numbers):
                        text = pattern_text(Book(signs), numbers)
                        self.assertEqual(slow_notes.pattern(signs, text), numbers)
                        self.assertEqual(pattern_read(Book(signs), text), numbers)

    def test_one_sign_otherwise(self):
        for text in PATTERNS:
            for told in mutations(text):
                self.assertEqual(self.read(pattern_read, BOOK, told), slow_notes.pattern(slow.BOOKS[1], told))

    def test_no_texts(self):
        for text in BLANKS + ("__", "_a", "_()", "_(a)", "g(__)", "f(_)", "f(_,_,_)", "-1", "g(-1)", "-", "b", "0.0",
                              "g(g(g(g(g(g(_))))))", "f(f(f(_,_),_),_)", "g(g(g(g(g(g(a))))))", " _", "_ ", "_\n"):
            self.no_text(pattern_read, BOOK, text)

    def test_no_patterns(self):
        for wrong in ((), (1,), (2, -1), (-2,), (3,), (-1, -1), (1,) * 6 + (-1,), (10 ** 29,), (2, -1, -2)):
            self.refused("NoPattern", pattern_text, BOOK, wrong)


class ReaderTextTest(NotesTest):
    def test_known_texts(self):
        self.assertEqual(reader_text(Reader(BOOK, 2, [[0], [1, 0], [0, 1, 1, 0]], [1])), "2 / 1 / 0 ; 1 0 ; 0 1 1 0")
        self.assertEqual(reader_text(Reader(BOOK, 1, [[0], [0], [0]], [])), "1 / - / 0 ; 0 ; 0")
        self.assertEqual(reader_text(Reader(Book([("a", 0)]), 6, [[5]], [0, 1, 2, 3, 4, 5])), "6 / 0,1,2,3,4,5 / 5")
        for text in READERS:
            self.assertEqual(reader_text(reader_read(BOOK, text)), text)

    def test_written_and_read_again(self):
        chance = random.Random(132)
        for signs in slow.BOOKS + (LONG_NAMES,):
            for moods in range(1, 7):
                for _ in range(4):
                    plain = some_plain(chance, signs, moods)
                    text = reader_text(made(Book(signs), plain))
                    self.assertEqual(slow_notes.reader(signs, text), plain)
                    told = reader_read(Book(signs), text)
                    self.assertIsInstance(told, Reader)
                    self.assertEqual(plain_of(told), plain)
                    self.assertIs(told.book().is_like(Book(signs)), True)

    def test_a_read_reader_need_not_be_least(self):
        text = "3 / 1,2 / 2 ; 2 2 2 ; 2 2 2 2 2 2 2 2 2"
        self.assertEqual(plain_of(reader_read(BOOK, text)), (3, [[2], [2] * 3, [2] * 9], [1, 2]))

    def test_readers_of_more_than_six_moods_are_written_not_read(self):
        signs = slow.BOOKS[1]
        told = met(made(BOOK, counting(signs, 0, 6, [1, 2])), made(BOOK, counting(signs, 1, 5, [1, 3])))
        text = reader_text(told)
        self.assertTrue(text.startswith("30 / "))
        self.assertEqual(len(text.split(" / ")[2].split(" ; ")[2].split(" ")), 900)
        self.no_text(reader_read, BOOK, text)
        # An odd number of signs g, and at least three signs h.
        words = Book([("a", 0), ("g", 1), ("h", 1)])
        told = met(made(words, (2, [[0], [1, 0], [0, 1]], [1])), made(words, (4, [[0], [0, 1, 2, 3], [1, 2, 3, 3]], [3])))
        self.assertEqual(reader_text(told), "8 / 7 / 0 ; 1 0 3 2 5 4 7 6 ; 2 3 4 5 6 7 6 7")
        self.no_text(reader_read, words, reader_text(told))
        self.no_text(reader_read, Book([("a", 0)]), "7 / - / 0")
        self.assertEqual(reader_read(Book([("a", 0)]), "6 / - / 0").moods(), 6)

    def test_one_sign_otherwise(self):
        for text in READERS:
            for told in mutations(text):
                reader = self.read(reader_read, BOOK, told)
                self.assertEqual(None if reader is None else plain_of(reader), slow_notes.reader(slow.BOOKS[1], told))

    def test_no_texts(self):
        for text in BLANKS + ("2", "2 / 1", "2 / 1 / ", "2/1/0 ; 1 0 ; 0 1 1 0", "2 / 1 / 0;1 0;0 1 1 0", "2 / 1 / 0 ; 1 0",
                              "2 / 1 / 0 ; 1 0 ; 0 1 1 0 ; 0", "2 / 1 / 0 ; 1 0 ; 0 1 1 0 / 0", "2 /  / 0 ; 1 0 ; 0 1 1 0",
                              "2 / 1 0 / 0 ; 1 0 ; 0 1 1 0", "2 / 1,0 / 0 ; 1 0 ; 0 1 1 0", "2 / 1,1 / 0 ; 1 0 ; 0 1 1 0",
                              "2 / -,1 / 0 ; 1 0 ; 0 1 1 0", "2 / 2 / 0 ; 1 0 ; 0 1 1 0", "2 / 1 / 2 ; 1 0 ; 0 1 1 0",
                              "2 / 1 / 0 ; 1,0 ; 0,1,1,0", "2 / 1 / 0 ; 1 0 ; 0 1 1", "0 / - / ; ; ", "0 / - / 0 ; 0 ; 0",
                              "-1 / - / 0 ; 0 ; 0", "+1 / - / 0 ; 0 ; 0", "1 / - / 0 ; 0 ; -0", "1.0 / - / 0 ; 0 ; 0",
                              "1 / _ / 0 ; 0 ; 0", "1 / -- / 0 ; 0 ; 0", "a ; g(0.0) ; f(0.0,0.1)", "1 / - / a ; 0 ; 0"):
            self.no_text(reader_read, BOOK, text)

    def test_numbers_with_a_nought_ahead(self):
        for text in READERS:
            for place, sign in enumerate(text):
                if "0" <= sign <= "9":
                    for noughts in ("0", "00", "0" * 40):
                        self.no_text(reader_read, BOOK, text[:place] + noughts + text[place:])
                    self.no_text(reader_read, BOOK, text[:place] + "1" * 3500 + text[place + 1:])

    def test_blanks_tabs_and_line_ends(self):
        for text in READERS:
            for blank in BLANKS[1:]:
                for told in (text + blank, blank + text, text.replace(" ", blank, 1), text.replace(" / ", blank),
                             text.replace(" ; ", " ;" + blank), text.replace("; ", ";  ")):
                    if told != text:
                        self.no_text(reader_read, BOOK, told)

    def test_texts_by_another_book(self):
        self.no_text(reader_read, TWO, "2 / 1 / 0 ; 1 0 ; 0 1 1 0")
        self.assertEqual(plain_of(reader_read(TWO, "2 / 1 / 0 1 1 0 ; 0 ; 1")), (2, [[0, 1, 1, 0], [0], [1]], [1]))


class TurnerTextTest(NotesTest):
    def test_known_texts(self):
        turner = Turner(BOOK, BOOK, [[(0,), (2, (0, 0), (0, 0)), (2, (0, 1), (0, 0))]])
        self.assertEqual(turner_text(turner), "a ; f(0.0,0.0) ; f(0.1,0.0)")
        self.assertEqual(turner_text(idle(BOOK)), "a ; g(0.0) ; f(0.0,0.1)")
        # Of the goal book are the names.
        turner = Turner(BOOK, TWO, [[(1,), ((1, 0),), (0, (0, 0), 2)], [(2,), (1,), (0, 0, 1, (1, 1), (0, 0))]])
        self.assertEqual(turner_text(turner), "a ; 1.0 ; f(0.0,b) / b ; a ; f(f(a,1.1),0.0)")
        for text in TURNERS:
            self.assertEqual(turner_text(turner_read(BOOK, BOOK, text)), text)

    def test_written_and_read_again(self):
        chance = random.Random(133)
        for signs in slow.BOOKS:
            for goals in slow.BOOKS + (LONG_NAMES,):
                for states in (1, 2, 3):
                    rows = some_rows(chance, signs, goals, states, 8)
                    text = turner_text(Turner(Book(signs), Book(goals), rows))
                    self.assertEqual(slow_notes.turner(signs, goals, text), rows)
                    told = turner_read(Book(signs), Book(goals), text)
                    self.assertIsInstance(told, Turner)
                    self.assertEqual(rows_of(told), rows)
                    self.assertIs(told.book().is_like(Book(signs)), True)
                    self.assertIs(told.goals().is_like(Book(goals)), True)

    def test_greater_turners_are_written_not_read(self):
        one = Turner(BOOK, BOOK, [[(0,), (1, ((state + 1) % 3, 0)), (2, (0, 0), (1, 1))] for state in range(3)])
        other = Turner(BOOK, BOOK, [[(0,), (1, (state, 0)), (2, ((state + 1) % 3, 0), (0, 1))] for state in range(3)])
        told = behind(one, other)
        text = turner_text(told)
        self.assertEqual(text.count(" / "), 8)
        self.assertIn("8.0", text)
        self.no_text(turner_read, BOOK, BOOK, text)
        long = Turner(BOOK, BOOK, [[(0,), (1,) * 5 + ((0, 0),), (0,)]])
        text = turner_text(behind(long, long))
        self.assertEqual(text, "a ; " + "g(" * 25 + "0.0" + ")" * 25 + " ; a")
        self.no_text(turner_read, BOOK, BOOK, text)

    def test_made_rows_of_eight_and_nine(self):
        self.assertEqual(turner_read(BOOK, BOOK, "a ; g(g(g(g(g(g(g(0.0))))))) ; a").row(0, 1), (1,) * 7 + ((0, 0),))
        self.no_text(turner_read, BOOK, BOOK, "a ; g(g(g(g(g(g(g(g(0.0)))))))) ; a")
        self.no_text(turner_read, BOOK, BOOK, "a ; g(" + "g(" * 1000 + "a" + ")" * 1001 + " ; a")
        self.no_text(turner_read, BOOK, BOOK, " / ".join(["a ; a ; a"] * 4))
        self.assertEqual(turner_read(BOOK, BOOK, " / ".join(["a ; a ; a"] * 3)).states(), 3)

    def test_one_sign_otherwise(self):
        signs = slow.BOOKS[1]
        for text in TURNERS:
            for told in mutations(text):
                turner = self.read(turner_read, BOOK, BOOK, told)
                self.assertEqual(None if turner is None else rows_of(turner), slow_notes.turner(signs, signs, told))

    def test_no_texts(self):
        for text in BLANKS + ("a", "a ; a", "a ; a ; a ; a", "a ; a ; a / a ; a", "a;a;a", "a ; a ; a /", "a ; a ; a / ",
                              " / a ; a ; a", "a ;  ; a", "a ; a ; a ; ", "a ; 1.0 ; a", "a ; 0.1 ; a", "0.0 ; a ; a",
                              "a ; 0.0.0 ; a", "a ; 0. ; a", "a ; .0 ; a", "a ; . ; a", "a ; 0 ; a", "a ; 00.0 ; a",
                              "a ; 0.00 ; a", "a ; +0.0 ; a", "a ; 0.-0 ; a", "a ; 0.0(a) ; a", "a ; _ ; a", "a ; g(_) ; a",
                              "a ; 0,0 ; a", "a ; (0, 0) ; a", "a ; 0 .0 ; a", "a ; b ; a", "a ; g() ; a", "a ; f(a) ; a",
                              "2 / 1 / 0 ; 1 0 ; 0 1 1 0", "a ; " + "9" * 3000 + ".0 ; a", "a ; 0." + "0" * 3000 + " ; a"):
            self.no_text(turner_read, BOOK, BOOK, text)

    def test_blanks_tabs_and_line_ends(self):
        for text in TURNERS:
            for blank in BLANKS[1:]:
                for told in (text + blank, blank + text, text.replace(" ; ", blank), text.replace(" ", blank, 1),
                             text.replace(",", "," + blank), text.replace("(", blank + "(")):
                    if told != text:
                        self.no_text(turner_read, BOOK, BOOK, told)

    def test_texts_by_other_books(self):
        self.no_text(turner_read, BOOK, TWO, "a ; g(0.0) ; f(0.0,0.1)")
        self.no_text(turner_read, TWO, BOOK, "a ; g(0.0) ; f(0.0,0.1)")
        self.assertEqual(rows_of(turner_read(TWO, BOOK, "f(0.1,g(0.0)) ; a ; g(a)")), [[(2, (0, 1), 1, (0, 0)), (0,), (1, 0)]])


if __name__ == "__main__":
    unittest.main()
