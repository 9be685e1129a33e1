"""Points 32 to 35, and points 1 and 2 where they are about the desk."""

import random
import unittest

import slow
from given import BOOK, TREE, HandTest, counting, made, plain_of, rows_of, some_plain, some_rows
from treehands.counts import all_many, many, tree_at
from treehands.desk import Desk
from treehands.errors import HandError
from treehands.lands import before, lands
from treehands.notes import (pattern_read, pattern_text, reader_read, reader_text, tree_text, turner_read, turner_text)
from treehands.paths import shut
from treehands.patterns import fitting, holding
from treehands.sets import about, first, joined, least, less, met, same
from treehands.signs import Book
from treehands.turners import Turner, behind, idle, size_turned, turned

SIGNS = slow.BOOKS[1]
ODD = "2 / 1 / 0 ; 1 0 ; 0 1 1 0"
THREE = "3 / 0 / 0 ; 1 2 0 ; 0 1 2 1 2 0 2 0 1"
FOUR = "4 / 3 / 0 ; 1 2 3 0 ; " + " ".join(str((here + there) % 4) for here in range(4) for there in range(4))
SIX = reader_text(made(BOOK, counting(SIGNS, 1, 6, [1, 3])))
FIVE_LEAVES = reader_text(made(BOOK, counting(SIGNS, 0, 5, [2])))
DOUBLE = "a ; f(0.0,0.0) ; f(0.1,0.0)"
KEEP = "a ; g(0.0) ; f(0.0,0.1)"
LONG = "a ; g(g(g(g(g(0.0))))) ; f(0.0,0.1)"
STATES = "a ; g(1.0) ; f(0.0,1.1) / a ; g(2.0) ; f(1.0,1.1) / g(a) ; g(0.0) ; f(2.0,0.1)"
OTHERS = "a ; g(1.0) ; f(1.0,0.1) / a ; f(2.0,0.0) ; f(0.0,1.1) / a ; g(0.0) ; f(1.0,0.1)"
NO_NAMES = ("", "A", "aB", "abcdefg", "a1", "1", "a-b", "_", "a_", "-", "a.b", "abc\t", "\tabc", "a\n", "\u00e4", "a\u00e4",
            "\u03b1", "(a)", "a,b", "'a'")
NO_NUMBERS = ("", "x", "-1", "+1", "00", "01", "1.0", "1,0", "1e3", "0x1", "1_0", "\u00b2", "\u0661", "9" * 31, "1" + "0" * 30,
              "1\t", "\t1", "1\n", "--1", "1-")
NO_TREES = ("b", "g", "f(a)", "f(a,a,a)", "g()", "A", "g(_)", "_", "0.0", "ga", "f(a;a)", "a(a)", "(a)", "f(a,a", "2",
            "g(" * 40 + "a" + ")" * 40, "\t", "a\t", "\ta", "f(a,\ta)", "a\n", "none", "-")
NO_PATTERNS = ("b", "g", "f(_)", "f(_,_,_)", "__", "-1", "g(-1)", "_(_)", "g(g(g(g(g(g(_))))))", "_\t", "\n_", "-", "*")


class DeskTest(HandTest):
    def setUp(self):
        self.desk = Desk(BOOK)

    def keep(self, *lines):
        for line in lines:
            self.assertEqual(self.desk.say(line), "ok")

    def say(self, line, wanted):
        self.assertEqual(self.desk.say(line), wanted)

    def no(self, name, line):
        """A refused line, behind which all is as it was."""
        before = self.all_kept(self.desk)
        self.refused(name, self.desk.say, line)
        self.assertEqual(self.all_kept(self.desk), before)

    def all_kept(self, desk):
        names = desk.say("names")
        return {name: desk.say("show " + name) for name in names.split(" ") if name}

    def greats(self):
        """Keep readers of 1 to 30 moods and turners within and beyond what is handed in."""
        self.keep("reader one 1 / 0 / 0 ; 0 ; 0", "reader odd " + ODD, "reader three " + THREE, "reader four " + FOUR,
                  "reader five " + FIVE_LEAVES, "reader six " + SIX, "meet thirty five six", "turner keep " + KEEP,
                  "turner double " + DOUBLE, "turner long " + LONG, "turner states " + STATES, "turner others " + OTHERS,
                  "behind many states others", "behind rows long long")
        self.assertTrue(self.desk.say("show thirty").startswith("30 / "))
        self.assertGreater(self.desk.say("show many").count(" / "), 2)
        self.assertEqual(self.desk.say("show rows"), "a ; " + "g(" * 25 + "0.0" + ")" * 25 + " ; f(0.0,0.1)")


class KeepTest(DeskTest):
    def test_reader_and_turner(self):
        self.keep("reader odd " + ODD, "turner t " + DOUBLE)
        self.say("show odd", ODD)
        self.say("show t", DOUBLE)
        self.say("names", "odd t")
        for text in (ODD, THREE, FOUR, SIX, "3 / 1,2 / 2 ; 2 2 2 ; 2 2 2 2 2 2 2 2 2"):
            # A reader is kept as it is written, least or not.
            self.keep("reader x " + text)
            self.say("show x", text)
        for text in (DOUBLE, KEEP, LONG, STATES, OTHERS):
            self.keep("turner x " + text)
            self.say("show x", text)

    def test_sets(self):
        self.keep("reader odd " + ODD, "reader x " + THREE)
        odd, other = reader_read(BOOK, ODD), reader_read(BOOK, THREE)
        for line, told in (("join y odd x", joined(odd, other)), ("meet y odd x", met(odd, other)),
                           ("less y odd x", less(odd, other)), ("less y x odd", less(other, odd)),
                           ("about y odd", about(odd)), ("least y x", least(other)), ("shut y odd", shut(odd)),
                           ("join y odd odd", joined(odd, odd)), ("less y odd odd", less(odd, odd))):
            self.keep(line)
            self.say("show y", reader_text(told))
        self.say("names", "odd x y")

    def test_patterns(self):
        for text in ("_", "a", "g(_)", "f(_,a)", "f(g(_),a)", "g(g(g(g(g(_)))))"):
            self.keep("like x " + text, "hold y " + text)
            self.say("show x", reader_text(fitting(BOOK, pattern_read(BOOK, text))))
            self.say("show y", reader_text(holding(BOOK, pattern_read(BOOK, text))))

    def test_before_and_behind(self):
        self.keep("turner t " + DOUBLE, "turner u " + STATES, "reader odd " + ODD)
        one, other = turner_read(BOOK, BOOK, DOUBLE), turner_read(BOOK, BOOK, STATES)
        self.keep("before x t odd", "behind y t u", "behind z u t")
        self.say("show x", reader_text(before(one, reader_read(BOOK, ODD))))
        self.say("show y", turner_text(behind(one, other)))
        self.say("show z", turner_text(behind(other, one)))
        self.assertNotEqual(self.desk.say("show y"), self.desk.say("show z"))
        self.keep("before x u odd")
        self.say("show x", reader_text(before(other, reader_read(BOOK, ODD))))

    def test_what_was_kept_by_the_name_is_gone(self):
        self.keep("reader x " + ODD, "turner x " + DOUBLE)
        self.say("show x", DOUBLE)
        self.no("NoName", "first x")
        self.keep("like x a")
        self.say("first x", "a")
        self.no("NoName", "turn x a")
        self.say("names", "x")

    def test_name_may_be_what_is_asked(self):
        odd, other = reader_read(BOOK, ODD), reader_read(BOOK, THREE)
        one, two = turner_read(BOOK, BOOK, DOUBLE), turner_read(BOOK, BOOK, STATES)
        for line, name, told in (
                ("join a a b", "a", joined(odd, other)), ("join b a b", "b", joined(odd, other)),
                ("meet a a b", "a", met(odd, other)), ("less b a b", "b", less(odd, other)), ("about a a", "a", about(odd)),
                ("least b b", "b", least(other)), ("shut a a", "a", shut(odd)), ("join a a a", "a", joined(odd, odd)),
                ("before a t a", "a", before(one, odd)), ("before t t a", "t", before(one, odd))):
            self.desk = Desk(BOOK)
            self.keep("reader a " + ODD, "reader b " + THREE, "turner t " + DOUBLE, "turner u " + STATES, line)
            self.say("show " + name, reader_text(told))
        for line, name, told in (("behind t t u", "t", behind(one, two)), ("behind u t u", "u", behind(one, two)),
                                 ("behind t u t", "t", behind(two, one)), ("behind t t t", "t", behind(one, one))):
            self.desk = Desk(BOOK)
            self.keep("turner t " + DOUBLE, "turner u " + STATES, line)
            self.say("show " + name, turner_text(told))

    def test_names_may_be_words_of_lines(self):
        for name in ("reader", "names", "undo", "ok", "none", "all", "abcdef", "a", "z"):
            self.keep("reader " + name + " " + ODD, "join " + name + " " + name + " " + name)
            self.say("show " + name, ODD)
        self.say("names", "a abcdef all names none ok reader undo z")

    def test_drop(self):
        self.keep("reader x " + ODD, "turner t " + DOUBLE, "drop x")
        self.say("names", "t")
        self.no("NoName", "show x")
        self.no("NoName", "drop x")
        self.keep("drop t")
        self.say("names", "")
        self.keep("like x _")
        self.say("names", "x")

    def test_desks_stand_alone(self):
        other = Desk(Book([("a", 0), ("g", 1), ("f", 2)]))
        self.keep("reader x " + ODD)
        self.assertEqual(other.say("names"), "")
        self.refused("NoName", other.say, "show x")
        self.refused("Nothing", other.say, "undo")

    def test_book_of_other_signs(self):
        desk = Desk(Book([("f", 2), ("a", 0), ("b", 0)]))
        self.assertEqual(desk.say("like x f(_,b)"), "ok")
        self.assertEqual(desk.say("first x"), "f(a,b)")
        self.refused("NoText", desk.say, "like x g(_)")
        self.refused("NoText", desk.say, "reader x " + ODD)
        self.assertEqual(desk.say("turner t f(0.1,0.0) ; b ; a"), "ok")
        self.assertEqual(desk.say("turn t f(a,f(a,b))"), "f(f(a,b),b)")


class TellTest(DeskTest):
    def test_names(self):
        self.say("names", "")
        self.keep("like b _", "like ab _", "like a _", "like aaa _", "turner ba " + DOUBLE, "like z _", "like azz _")
        self.say("names", "a aaa ab azz b ba z")

    def test_likes(self):
        self.keep("reader x " + ODD)
        self.say("likes x g(a)", "yes")
        self.say("likes x a", "no")
        self.say("likes x f(g(a),a)", "yes")
        self.say("likes x " + "g(" * 39 + "a" + ")" * 39, "yes")

    def test_first(self):
        self.keep("reader x " + ODD, "reader y 1 / - / 0 ; 0 ; 0", "reader z 1 / 0 / 0 ; 0 ; 0")
        self.say("first x", "g(a)")
        self.say("first y", "none")
        self.say("first z", "a")

    def test_first_of_more_than_40_signs(self):
        desk = Desk(Book([("a", 0), ("f", 2)]))
        table = [str(here + 1 if here == there < 5 else 0) for here in range(6) for there in range(6)]
        self.assertEqual(desk.say("reader x 6 / 5 / 0 ; " + " ".join(table)), "ok")
        full = "a"
        for _ in range(5):
            full = "f(" + full + "," + full + ")"
        self.assertEqual(desk.say("first x"), full)

    def test_many_and_all(self):
        self.keep("reader x " + ODD, "like y f(g(a),a)", "reader z 1 / - / 0 ; 0 ; 0")
        for size in range(1, 31):
            self.say("many x " + str(size), str(many(reader_read(BOOK, ODD), size)))
        self.say("many y 4", "1")
        self.say("many y 30", "0")
        self.say("all x", "endless")
        self.say("all y", "1")
        self.say("all z", "0")
        for number in ("0", "31", "100", "9" * 30):
            self.no("NoNumber", "many x " + number)

    def test_at(self):
        self.keep("reader x " + ODD, "like y f(g(a),a)")
        self.say("at x 0", "g(a)")
        self.say("at x 4", "f(g(a),a)")
        self.say("at x 677087183361", tree_text(BOOK, (2,) * 14 + (1,) + (0,) * 15))
        self.say("at y 0", "f(g(a),a)")
        self.no("NoNumber", "at y 1")
        self.no("NoNumber", "at x 677087183362")
        self.no("NoNumber", "at x " + "9" * 30)

    def test_same(self):
        self.keep("reader x " + ODD, "about y x", "about z y", "hold w g(_)")
        self.say("same x x", "alike")
        self.say("same x z", "alike")
        self.say("same x y", "unlike a")
        self.say("same x w", "unlike g(g(a))")

    def test_turn(self):
        self.keep("turner t " + DOUBLE, "turner u " + KEEP)
        self.say("turn t f(g(a),a)", "f(a,f(a,a))")
        self.say("turn u f(g(a),a)", "f(g(a),a)")
        self.say("turn t " + "g(" * 6 + "a" + ")" * 6, tree_text_of_doubled(6))
        self.no("TooGreat", "turn t " + "g(" * 7 + "a" + ")" * 7)

    def test_lands(self):
        self.keep("reader odd " + ODD, "about even odd", "turner t " + DOUBLE, "turner u " + KEEP)
        self.say("lands t odd odd", "not g(a)")
        self.say("lands t odd even", "always")
        self.say("lands u odd odd", "always")
        self.say("lands u even odd", "not a")

    def test_great_trees(self):
        # As in the tests of landing: by threes two states count how high a full tree of f is.
        desk = Desk(Book([("a", 0), ("f", 2), ("n", 1), ("e", 2), ("d", 2), ("z", 2)]))
        pairs = list(slow.product(range(3), repeat=2))
        e = [here if here == there else 0 for here, there in pairs]
        d = [(here + 1) % 3 if there == 2 else here for here, there in pairs]
        low, high, rest = "e(1.0,1.1)", "e(2.0,2.1)", " ; a ; a ; a ; a"
        states = [f"a ; z({low},{high}){rest}", f"a ; n({low}){rest}", f"a ; d({high},{low}){rest}"]
        self.assertEqual(desk.say("turner t " + " / ".join(states)), "ok")
        self.assertEqual(desk.say("reader every 1 / 0 / 0 ; 0 ; 0 ; 0 ; 0 ; 0"), "ok")
        for height, fits in ((5, True), (6, False)):
            z = [1 if pair == (height % 3, height // 3) else 0 for pair in pairs]
            tables = ["0", " ".join(["0"] * 9), "1 2 0"] + [" ".join(map(str, table)) for table in (e, d, z)]
            self.assertEqual(desk.say("reader g 3 / 0,2 / " + " ; ".join(tables)), "ok")
            if fits:
                self.assertEqual(desk.say("lands t every g").count("a"), 64)
            else:
                self.refused("TooGreat", desk.say, "lands t every g")


def tree_text_of_doubled(many):
    text = "a"
    for _ in range(many):
        text = "f(" + text + "," + text + ")"
    return text


class NoLineTest(DeskTest):
    FORMS = ("reader x {reader}", "turner x {turner}", "join x r r", "meet x r r", "less x r r", "about x r", "least x r",
             "shut x r", "like x _", "hold x _", "before x t r", "behind x t t", "drop r", "undo", "names", "show r",
             "likes r a", "first r", "many r 3", "all r", "at r 0", "same r r", "turn t a", "lands t r r")

    def setUp(self):
        self.desk = Desk(BOOK)
        self.keep("turner t " + DOUBLE, "reader r " + ODD)

    def lines(self):
        return [line.format(reader=ODD, turner=DOUBLE) for line in self.FORMS]

    def test_forms(self):
        for line in self.lines():
            desk = Desk(BOOK)
            desk.say("turner t " + DOUBLE)
            desk.say("reader r " + ODD)
            self.assertIsInstance(desk.say(line), str)

    def test_other_first_words(self):
        for line in ("", " ", "x", "Names", "NAMES", "name", "namess", "names.", "ok", "read x " + ODD, "readers x " + ODD,
                     "Reader x " + ODD, "redo", "quit", "help", "keep x _", "fit x _", "beside x", "cheapest x", "again t a",
                     "idle t", "-", "0", "\t", "\n", "likes", "like"):
            self.no("NoLine", line)

    def test_more_or_fewer_words(self):
        for line in self.lines():
            words = line.split(" ")
            if words[0] in ("reader", "turner"):
                self.no("NoLine", words[0])
                self.no("NoLine", words[0] + " x")
                continue
            self.no("NoLine", line + " x")
            self.no("NoLine", line + " r")
            self.no("NoLine", line + " 0")
            if len(words) > 1:
                self.no("NoLine", " ".join(words[:-1]))
                self.no("NoLine", " ".join(words[:-1] + ["r", words[-1]]))
            self.no("NoLine", words[0] + " r r r r")

    def test_another_blank(self):
        for line in self.lines():
            self.no("NoLine", " " + line)
            if line.split(" ")[0] not in ("reader", "turner"):
                self.no("NoLine", line + " ")
                self.no("NoLine", line + "  ")
            words = line.split(" ")
            for place in range(1, len(words)):
                if words[0] not in ("reader", "turner") or place < 2:
                    self.no("NoLine", " ".join(words[:place]) + "  " + " ".join(words[place:]))
                if words[0] not in ("reader", "turner") or place < 3:
                    self.no("NoLine", " ".join(words[:place]) + "\t" + " ".join(words[place:]))
                    self.no("NoLine", " ".join(words[:place]) + "\n" + " ".join(words[place:]))
            self.no("NoLine", "\t" + line)
            self.no("NoLine", "\n" + line)
        for line in ("names\t", "names\n", "undo\t", "undo\n", "names\r", "first r\t", "drop r\n", "many r 3\t", "at r 0\n"):
            self.no("NoLine", line)

    def test_text_of_nothing(self):
        self.no("NoLine", "reader x")
        self.no("NoText", "reader x ")
        self.no("NoLine", "turner x")
        self.no("NoText", "turner x ")
        self.no("NoLine", "reader ")
        self.no("NoLine", "reader  ")
        self.no("NoLine", "turner  " + DOUBLE)
        for line in ("like x ", "hold x ", "likes r ", "turn t ", "many r ", "at r ", "like ", "likes r", "like x"):
            self.no("NoLine", line)

    def test_no_names(self):
        for line in self.lines():
            words = line.split(" ")
            last = 2 if words[0] in ("reader", "turner") else len(words)
            for place in range(1, last):
                if words[place] in ("x", "r", "t"):
                    for name in NO_NAMES:
                        self.no("NoLine", " ".join(words[:place] + [name] + words[place + 1:]))
        self.keep("like abcdef _")
        self.no("NoLine", "like abcdefg _")

    def test_no_numbers(self):
        for number in NO_NUMBERS:
            self.no("NoLine", "many r " + number)
            self.no("NoLine", "at r " + number)
        self.no("NoNumber", "at r " + "9" * 30)
        self.no("NoNumber", "many r " + "1" + "0" * 29)
        self.say("at r 0", "g(a)")

    def test_text_is_all_that_stands_behind(self):
        for text in (" " + ODD, ODD + " ", ODD + "  ", ODD.replace(" ", "  ", 1), ODD + "\n", "\t" + ODD, "r", "x y z", " "):
            self.no("NoText", "reader x " + text)
        for text in (" " + DOUBLE, DOUBLE + " ", DOUBLE + "\t", DOUBLE.replace(" ; ", "  ;  "), "t", ODD, "\n"):
            self.no("NoText", "turner x " + text)
        self.no("NoText", "reader x " + DOUBLE)


class NoNameTest(DeskTest):
    LINES = ("join x {r} a", "join x a {r}", "meet x {r} a", "meet x a {r}", "less x {r} a", "less x a {r}", "about x {r}",
             "least x {r}", "shut x {r}", "before x t {r}", "likes {r} a", "first {r}", "many {r} 3", "all {r}", "at {r} 0",
             "same {r} a", "same a {r}", "lands t {r} a", "lands t a {r}", "before x {t} a", "behind x {t} t",
             "behind x t {t}", "turn {t} a", "lands {t} a a")

    def setUp(self):
        self.desk = Desk(BOOK)
        self.keep("reader a " + ODD, "turner t " + DOUBLE)

    def test_names_by_which_nothing_is_kept(self):
        for line in self.LINES:
            self.no("NoName", line.format(r="nobody", t="nobody"))
            self.no("NoName", line.format(r="x", t="x"))
        for line in ("drop x", "show x", "drop names", "show names"):
            self.no("NoName", line)
        self.no("NoName", "join a a b")
        self.no("NoName", "about b b")

    def test_names_by_which_the_other_kind_is_kept(self):
        for line in self.LINES:
            self.no("NoName", line.format(r="t", t="a"))
        self.say("show t", DOUBLE)
        self.say("show a", ODD)

    def test_names_that_were_kept(self):
        self.keep("like b _", "drop b", "like c _", "undo")
        for name in ("b", "c"):
            for line in self.LINES:
                self.no("NoName", line.format(r=name, t=name))


class OrderTest(DeskTest):
    def setUp(self):
        self.desk = Desk(BOOK)
        self.greats()

    def test_no_line_stands_ahead_of_all(self):
        for line in ("likes nobody g x", "likes nobody ", "many nobody x", "at thirty 01", "many thirty " + "9" * 31,
                     "join X nobody thirty", "join x nobody thirty thirty", "reader 1 none", "turner a", "like X b",
                     "turn nobody b b", "before x many nobody ", "undo x", "drop nobody nobody", "names x", "show nobody "):
            self.no("NoLine", line)

    def test_no_name_stands_ahead_of_no_text(self):
        for line in ("likes nobody b", "likes keep g()", "turn nobody b", "turn six b", "likes nobody \t"):
            self.no("NoName", line)

    def test_no_name_stands_ahead_of_too_great(self):
        for line in ("join x thirty nobody", "join x nobody thirty", "same thirty nobody", "before x many nobody",
                     "before x nobody thirty", "before x many keep", "behind x many nobody", "behind x rows one",
                     "lands many thirty nobody", "lands many nobody thirty", "lands nobody thirty thirty",
                     "join x keep thirty", "join x thirty keep"):
            self.no("NoName", line)

    def test_no_text(self):
        for text in NO_TREES:
            self.no("NoText", "likes six " + text)
            self.no("NoText", "turn keep " + text)
            # Whoever is asked for it may be as great as they like.
            self.no("NoText", "likes thirty " + text)
            self.no("NoText", "turn many " + text)
            self.no("NoText", "turn rows " + text)
        for text in NO_PATTERNS:
            self.no("NoText", "like x " + text)
            self.no("NoText", "hold x " + text)
            self.no("NoText", "hold six " + text)
        for text in ("", "x", "7 / - / 0 ; 0 ; 0", self.desk.say("show thirty"), DOUBLE, "1 / - / 0 ; 0"):
            self.no("NoText", "reader x " + text)
            self.no("NoText", "reader thirty " + text)
        for text in ("", "x", self.desk.say("show many"), self.desk.say("show rows"), ODD, "a ; a", "a ; 1.0 ; a"):
            self.no("NoText", "turner x " + text)

    def test_readers_of_more_than_six_moods(self):
        for line in ("join x thirty one", "join x one thirty", "meet x thirty one", "meet x one thirty", "less x thirty one",
                     "less x one thirty", "about x thirty", "least x thirty", "least thirty thirty", "shut x thirty",
                     "before x keep thirty", "first thirty", "many thirty 3", "all thirty", "at thirty 0", "same thirty one",
                     "same one thirty", "lands keep thirty one", "lands keep one thirty"):
            self.no("TooGreat", line)
        self.say("likes thirty a", "no")
        self.assertEqual(self.desk.say("likes thirty f(g(a),a)"), "yes")
        self.keep("drop thirty")

    def test_readers_of_four_to_six_moods(self):
        for name in ("four", "five", "six"):
            for line in ("shut x {}", "before x keep {}", "lands keep {} one", "lands keep one {}", "shut {} {}",
                         "lands keep {} {}"):
                self.no("TooGreat", line.replace("{}", name))
            for line in ("join x {} one", "meet x one {}", "less x {} {}", "about x {}", "least x {}"):
                self.keep(line.replace("{}", name))
            for line in ("first {}", "many {} 30", "all {}", "at {} 0", "same {} {}", "likes {} a", "show {}"):
                self.assertIsInstance(self.desk.say(line.replace("{}", name)), str)
        for name in ("one", "odd", "three"):
            self.keep("shut x " + name, "before x keep " + name)
            self.assertEqual(self.desk.say("lands keep {0} {0}".format(name)), "always")

    def test_turners_of_more_states_or_longer_rows(self):
        for name in ("many", "rows"):
            for line in ("before x {} odd", "behind x {} keep", "behind x keep {}", "behind {} {} {}", "lands {} odd odd"):
                self.no("TooGreat", line.replace("{}", name))
            self.assertEqual(self.desk.say("turn " + name + " a"), tree_text(BOOK, turned(
                {"many": behind(turner_read(BOOK, BOOK, STATES), turner_read(BOOK, BOOK, OTHERS)),
                 "rows": behind(*[turner_read(BOOK, BOOK, LONG)] * 2)}[name], (0,))))
            self.keep("drop " + name)
        for name in ("keep", "double", "states", "others", "long"):
            self.keep("before x " + name + " odd", "behind x " + name + " keep", "behind x keep " + name)

    def test_too_great_stands_ahead_of_what_is_told_above(self):
        self.no("TooGreat", "many thirty 0")
        self.no("TooGreat", "many thirty 31")
        self.no("TooGreat", "at thirty " + "9" * 30)
        self.no("NoNumber", "many six 0")
        self.no("NoNumber", "at one " + "9" * 30)

    def test_too_great_made_rows(self):
        self.keep("turner four a ; f(f(0.0,0.0),f(0.0,0.0)) ; a", "turner path a ; g(g(g(g(g(g(g(0.0))))))) ; a")
        self.no("TooGreat", "behind x path four")
        self.no("TooGreat", "behind path path four")
        self.keep("behind x four keep")

    def test_undo_and_names_are_asked_for_no_name(self):
        self.keep("undo")
        self.no("NoLine", "undo names")


class UndoTest(DeskTest):
    def test_nothing(self):
        self.no("Nothing", "undo")
        self.keep("like x _", "undo")
        self.no("Nothing", "undo")
        self.say("names", "")
        self.keep("like x _")
        self.say("names", "x")

    def test_each_kind_of_line(self):
        for line in ("reader x " + ODD, "turner x " + STATES, "join x r s", "meet x r s", "less x r s", "about x r",
                     "least x s", "shut x r", "like x a", "hold x a", "before x t r", "behind x t t", "drop x",
                     "join r r s", "about r r", "behind t t t", "drop r", "drop t", "before t t r", "turner r " + STATES):
            desk = Desk(BOOK)
            for kept in ("reader r " + ODD, "reader s " + THREE, "turner t " + DOUBLE, "like x g(_)"):
                self.assertEqual(desk.say(kept), "ok")
            before = self.all_kept(desk)
            self.assertEqual(desk.say(line), "ok")
            self.assertNotEqual(self.all_kept(desk), before)
            self.assertEqual(desk.say("undo"), "ok")
            self.assertEqual(self.all_kept(desk), before)
            self.assertEqual(desk.say("undo"), "ok")
            self.assertEqual(sorted(self.all_kept(desk)), ["r", "s", "t"])

    def test_again_and_again(self):
        self.keep("like x a", "like x g(_)", "drop x", "turner x " + DOUBLE, "like y _")
        self.keep("undo")
        self.say("names", "x")
        self.say("show x", DOUBLE)
        self.keep("undo")
        self.say("names", "")
        self.keep("undo")
        self.say("first x", "g(a)")
        self.keep("undo")
        self.say("first x", "a")
        self.keep("undo")
        self.say("names", "")
        self.no("Nothing", "undo")

    def test_a_line_behind_what_was_undone(self):
        self.keep("like x a", "like y a", "undo", "like z a", "undo", "undo")
        self.say("names", "")
        self.no("Nothing", "undo")
        self.keep("like x a", "undo", "like y a")
        self.say("names", "y")
        self.keep("undo")
        self.say("names", "")

    def test_refused_and_telling_lines_are_not_undone(self):
        self.keep("like x a", "like y g(_)")
        for name, line in (("NoLine", "like X a"), ("NoName", "drop z"), ("NoText", "like y b"), ("NoName", "join y x z"),
                           ("NoText", "reader x ")):
            self.no(name, line)
        for line in ("names", "show x", "likes x a", "first x", "many x 1", "all x", "at x 0", "same x y"):
            self.desk.say(line)
        self.keep("undo")
        self.say("names", "x")
        self.keep("undo")
        self.no("Nothing", "undo")

    def test_drop_and_undo(self):
        self.keep("reader x " + SIX, "drop x", "undo")
        self.say("show x", SIX)
        self.keep("drop x", "like x a", "undo")
        self.no("NoName", "show x")
        self.keep("undo")
        self.say("show x", SIX)
        self.keep("undo")
        self.say("names", "")

    def test_kept_anew_by_what_was_told_of_it(self):
        self.keep("reader x " + ODD)
        for _ in range(50):
            self.keep("about x x")
        self.say("first x", "g(a)")
        for number in range(50):
            self.keep("undo")
            self.say("likes x a", "no" if number % 2 else "yes")
        self.keep("undo")
        self.no("Nothing", "undo")


class LongTest(DeskTest):
    """Many lines by chance, held against what the functions tell of all that should be kept."""

    NAMES = ("a", "b", "c", "t", "u")

    def some_line(self, chance):
        names = [chance.choice(self.NAMES) for _ in range(3)]
        tree = tree_text(BOOK, slow.row(chance.choice(slow.grown_to(SIGNS, 5))))
        reader = reader_text(made(BOOK, some_plain(chance, SIGNS, chance.choice((1, 2, 2, 3, 3, 4, 6)))))
        turner = turner_text(Turner(BOOK, BOOK, some_rows(chance, SIGNS, SIGNS, chance.randrange(1, 4), 4)))
        pattern = chance.choice(("_", "a", "f(_,a)", "g(_)", "f(g(_),_)"))
        one, two, three = names
        return chance.choice((
            f"reader {one} {reader}", f"reader {one} {reader}", f"reader {one} {reader}", f"turner {one} {turner}",
            f"turner {one} {turner}", f"join {one} {two} {three}", f"meet {one} {two} {three}", f"less {one} {two} {three}",
            f"about {one} {two}", f"least {one} {two}", f"shut {one} {two}", f"like {one} {pattern}",
            f"hold {one} {pattern}", f"before {one} {two} {three}", f"behind {one} {two} {three}", f"drop {one}", "undo",
            "undo", "names", f"show {one}", f"likes {one} {tree}", f"first {one}", f"many {one} {chance.randrange(33)}",
            f"all {one}", f"at {one} {chance.randrange(30)}", f"same {one} {two}", f"turn {one} {tree}",
            f"lands {one} {two} {three}"))

    def wanted(self, kept, line):
        """What the line answers, and what it keeps if it keeps something: the slow way, for lines of a right form."""
        word, *words = line.split(" ", 2 if line.startswith(("reader", "turner")) else -1)
        calls = {"join": joined, "meet": met, "less": less, "about": about, "least": least, "shut": shut, "before": before,
                 "behind": behind}
        if word == "reader":
            return "ok", reader_read(BOOK, words[1])
        if word == "turner":
            return "ok", turner_read(BOOK, BOOK, words[1])
        if word in ("like", "hold"):
            return "ok", (fitting if word == "like" else holding)(BOOK, pattern_read(BOOK, words[1]))
        if word in calls:
            turners = {"before": 1, "behind": 2}.get(word, 0)
            most = 3 if word in ("before", "shut") else 6
            things = [self.thing(kept, name, number < turners) for number, name in enumerate(words[1:])]
            for number, thing in enumerate(things):
                self.check(thing, number < turners, most)
            return "ok", calls[word](*things)
        return self.told(kept, word, words), None

    def thing(self, kept, name, is_turner):
        if name not in kept or isinstance(kept[name], Turner) != is_turner:
            raise KeyError("NoName")
        return kept[name]

    def check(self, thing, is_turner, most):
        if is_turner:
            if thing.states() > 3 or any(len(row) > 8 for made_rows in rows_of(thing) for row in made_rows):
                raise KeyError("TooGreat")
        elif thing.moods() > most:
            raise KeyError("TooGreat")

    def told(self, kept, word, words):
        if word == "names":
            return " ".join(sorted(kept))
        if word == "show":
            if words[0] not in kept:
                raise KeyError("NoName")
            return (turner_text if isinstance(kept[words[0]], Turner) else reader_text)(kept[words[0]])
        if word in ("likes", "turn"):
            thing = self.thing(kept, words[0], word == "turn")
            tree = slow_tree(words[1])
            if word == "turn":
                if size_turned(thing, tree) > 40:
                    raise KeyError("skip")
                return tree_text(BOOK, turned(thing, tree))
            return "yes" if thing.likes(tree) else "no"
        if word == "lands":
            things = [self.thing(kept, name, number == 0) for number, name in enumerate(words)]
            for number, thing in enumerate(things):
                self.check(thing, number == 0, 3)
            paper = lands(*things)
            return "always" if paper[0] == "always" else "not " + tree_text(BOOK, paper[1])
        things = [self.thing(kept, name, False) for name in words if name in self.NAMES]
        for thing in things:
            self.check(thing, False, 6)
        if word == "first":
            return "none" if first(things[0]) is None else tree_text(BOOK, first(things[0]))
        if word == "many":
            return str(many(things[0], int(words[1])))
        if word == "all":
            return "endless" if all_many(things[0]) is None else str(all_many(things[0]))
        if word == "at":
            return tree_text(BOOK, tree_at(things[0], int(words[1])))
        paper = same(*things)
        return "alike" if paper[0] == "alike" else "unlike " + tree_text(BOOK, paper[1])

    def test_many_lines(self):
        chance = random.Random(141)
        refusals = {}
        for _ in range(12):
            desk, kept, past = Desk(BOOK), {}, []
            for _ in range(120):
                line = self.some_line(chance)
                if line == "undo" or line.startswith("drop"):
                    self.hold_back(desk, kept, past, line)
                else:
                    name = self.hold(desk, kept, past, line)
                    refusals[name] = refusals.get(name, 0) + 1
                self.assertEqual(desk.say("names"), " ".join(sorted(kept)))
            for name, thing in kept.items():
                text = turner_text(thing) if isinstance(thing, Turner) else reader_text(thing)
                self.assertEqual(desk.say("show " + name), text)
        for name in ("NoName", "TooGreat", "NoNumber", None):
            self.assertGreater(refusals[name], 5)

    def hold_back(self, desk, kept, past, line):
        """Hold a line that drops or undoes something."""
        if line == "undo":
            if not past:
                self.refused("Nothing", desk.say, line)
                return
            earlier = past.pop()
        else:
            if line.split(" ")[1] not in kept:
                self.refused("NoName", desk.say, line)
                return
            past.append(dict(kept))
            earlier = {name: thing for name, thing in kept.items() if name != line.split(" ")[1]}
        self.assertEqual(desk.say(line), "ok")
        kept.clear()
        kept.update(earlier)

    def hold(self, desk, kept, past, line):
        """Hold any other line; told is the name of the refusal, if it is refused."""
        try:
            answer, thing = self.wanted(kept, line)
        except KeyError as refusal:
            name = refusal.args[0]
            if name != "skip":
                self.refused(name, desk.say, line)
            return name
        except HandError as refusal:
            self.refused(refusal.__class__.__name__, desk.say, line)
            return refusal.__class__.__name__
        self.assertEqual(desk.say(line), answer)
        if thing is not None:
            past.append(dict(kept))
            kept[line.split(" ")[1]] = thing
        return None


def slow_tree(text):
    names = text.replace("(", " ").replace(")", " ").replace(",", " ").split()
    return tuple(["a", "g", "f"].index(name) for name in names)


class ChangeTest(DeskTest):
    def test_the_book_may_be_asked_for_again(self):
        signs = [("a", 0), ("g", 1), ("f", 2)]
        book = Book(signs)
        desk = Desk(book)
        signs.clear()
        self.assertEqual(desk.say("like x f(_,_)"), "ok")
        self.assertEqual(desk.say("first x"), "f(a,a)")
        self.assertIs(book.is_like(BOOK), True)

    def test_asking_changes_nothing(self):
        self.keep("reader x " + THREE, "turner t " + STATES, "like y g(_)")
        lines = ("names", "show x", "show t", "likes x g(a)", "first y", "many x 20", "all y", "at x 100", "same x y",
                 "turn t f(g(a),a)", "lands t x y")
        told = [self.desk.say(line) for line in lines]
        self.assertEqual([self.desk.say(line) for line in lines[::-1]], told[::-1])
        self.assertEqual(pattern_text(BOOK, (1, -1)), "g(_)")
        self.assertEqual(plain_of(reader_read(BOOK, THREE)), (3, [[0], [1, 2, 0], [0, 1, 2, 1, 2, 0, 2, 0, 1]], [0]))
        self.assertEqual(turned(idle(BOOK), TREE), TREE)


if __name__ == "__main__":
    unittest.main()
