"""Point 3, and points 1 and 2 where they are about books."""

import unittest

from given import GREAT, HandTest
from treehands.signs import Book

SIX = [("a", 0), ("bc", 1), ("xyz", 2), ("z", 0), ("aa", 1), ("aaa", 2)]


class BookTest(HandTest):
    def no_book(self, signs):
        self.refused("NoBook", Book, signs)

    def told(self, signs):
        book = Book(signs)
        return [(book.name(sign), book.kids(sign)) for sign in range(book.many())]

    def test_book_of_one_sign(self):
        book = Book([("a", 0)])
        self.assertEqual(book.many(), 1)
        self.assertEqual(book.name(0), "a")
        self.assertEqual(book.kids(0), 0)
        self.assertEqual(book.number("a"), 0)

    def test_book_of_six_signs(self):
        book = Book(SIX)
        self.assertEqual(book.many(), 6)
        self.assertEqual(self.told(SIX), SIX)
        for sign, (name, _) in enumerate(SIX):
            self.assertEqual(book.number(name), sign)

    def test_books_of_each_number_of_signs(self):
        for many in range(1, 7):
            self.assertEqual(self.told(SIX[:many]), SIX[:many])

    def test_names_from_a_to_z(self):
        for name in ("a", "z", "az", "zz", "aaa", "zzz", "mno"):
            with self.subTest(name=name):
                self.assertEqual(self.told([(name, 0)]), [(name, 0)])

    def test_sign_without_kids_may_stand_anywhere(self):
        for signs in ([("g", 1), ("a", 0)], [("f", 2), ("g", 1), ("a", 0)]):
            self.assertEqual(self.told(signs), signs)

    def test_number_of_a_name_that_no_sign_has(self):
        book = Book(SIX)
        for name in ("", "b", "c", "A", "xy", "xyzz", "aaaa", "bc ", "0"):
            with self.subTest(name=name):
                self.assertIsNone(book.number(name))

    def test_no_sign_and_too_many_signs(self):
        self.no_book([])
        self.no_book(SIX + [("b", 0)])
        self.no_book([("a" + letter, 0) for letter in "abcdefghijklmnopqrst"])
        self.no_book([("a", 0)] * 100)

    def test_names_too_short_and_too_long(self):
        self.no_book([("", 0)])
        self.no_book([("a", 0), ("", 1)])
        self.no_book([("abcd", 0)])
        self.no_book([("a", 0), ("a" * 100, 1)])

    def test_names_with_other_signs_than_small_letters(self):
        others = ["A", "Z", "0", "9", " ", "`", "{", "_", "-", ".", "\n", "\t", "'", "("]
        # Letters beyond z and of other alphabets, which Python calls small letters.
        others.extend(["\u00e4", "\u00df", "\u00e9", "\u03b1", "\u0430", "\uff41", "\u00aa"])
        for other in others:
            for name in (other, other + "a", "a" + other, other + "ab", "a" + other + "b", "ab" + other):
                with self.subTest(name=name):
                    self.no_book([(name, 0)])
                    self.no_book([("a", 0), (name, 1)])

    def test_one_name_twice(self):
        self.no_book([("a", 0), ("a", 0)])
        self.no_book([("a", 0), ("a", 1)])
        self.no_book([("a", 0), ("b", 1), ("c", 2), ("d", 0), ("e", 0), ("a", 2)])
        self.no_book([("a", 0), ("abc", 1), ("abc", 2)])

    def test_numbers_of_kids_out_of_bounds(self):
        for kids in (-1, 3, 4, -2, -3, GREAT, -GREAT, 10 ** 30 - 1):
            with self.subTest(kids=kids):
                self.no_book([("b", kids)])
                self.no_book([("a", 0), ("b", kids)])
                self.no_book([("b", kids), ("a", 0)])

    def test_no_sign_without_kids(self):
        self.no_book([("a", 1)])
        self.no_book([("a", 2)])
        self.no_book([("a", 1), ("b", 2), ("c", 1)])

    def test_tuples_of_another_length(self):
        self.no_book([()])
        self.no_book([("a",)])
        self.no_book([("a", 0, 0)])
        self.no_book([("a", 0), ("b", 1, "c")])

    def test_is_like(self):
        book = Book(SIX)
        self.assertIs(book.is_like(book), True)
        self.assertIs(book.is_like(Book(list(SIX))), True)
        self.assertIs(Book(list(SIX)).is_like(book), True)

    def test_is_not_like(self):
        signs = [("a", 0), ("g", 1), ("f", 2)]
        others = (
            [("b", 0), ("g", 1), ("f", 2)],
            [("a", 0), ("g", 1), ("h", 2)],
            [("a", 0), ("g", 2), ("f", 2)],
            [("a", 0), ("g", 0), ("f", 2)],
            [("a", 0), ("g", 2), ("f", 1)],
            [("a", 0), ("f", 1), ("g", 2)],
            [("g", 1), ("a", 0), ("f", 2)],
            [("a", 0), ("f", 2), ("g", 1)],
            [("a", 0), ("g", 1), ("f", 2), ("b", 0)],
            [("b", 0), ("a", 0), ("g", 1), ("f", 2)],
            [("a", 0), ("g", 1)],
            [("a", 0)],
        )
        for other in others:
            with self.subTest(other=other):
                self.assertIs(Book(signs).is_like(Book(other)), False)
                self.assertIs(Book(other).is_like(Book(signs)), False)

    def test_list_is_not_changed(self):
        signs = list(SIX)
        Book(signs)
        self.assertEqual(signs, SIX)
        wrong = [("a", 0), ("a", 1)]
        self.no_book(wrong)
        self.assertEqual(wrong, [("a", 0), ("a", 1)])

    def test_list_is_not_kept(self):
        signs = [("a", 0), ("g", 1), ("f", 2)]
        book = Book(signs)
        signs[0] = ("z", 2)
        signs.append(("b", 0))
        del signs[1]
        self.assertEqual(book.many(), 3)
        told = [(book.name(sign), book.kids(sign)) for sign in range(3)]
        self.assertEqual(told, [("a", 0), ("g", 1), ("f", 2)])
        self.assertEqual(book.number("a"), 0)
        self.assertIsNone(book.number("z"))
        self.assertIs(book.is_like(Book([("a", 0), ("g", 1), ("f", 2)])), True)

    def test_books_of_one_list_stand_alone(self):
        signs = [("a", 0)]
        one = Book(signs)
        signs.append(("g", 1))
        other = Book(signs)
        self.assertEqual((one.many(), other.many()), (1, 2))
        self.assertIs(one.is_like(other), False)


if __name__ == "__main__":
    unittest.main()
