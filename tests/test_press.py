"""Pressing books into houses, of saywell.press: point [29]."""

import copy
import random
import unittest

from saywell.books import Book
from saywell.errors import NoTongue
from saywell.patterns import shown
from saywell.press import press
from helper import a_house, a_tongue, put, told_of

GAPS = [("n", "count"), ("t", "thing")]


def a_full_house():
    house = a_house([a_tongue("en"), a_tongue("de", ["en"]), a_tongue("fr", ["en"])])
    for thing in ("cat", "dog"):
        house.word("en", thing, thing, "m")
    house.declare("k", GAPS)
    house.declare("l", [])
    house.declare("m", [])
    put(house, "en", "k", "{n} {t}")
    put(house, "en", "l", "hello")
    return house


def pieces_in(house):
    return {(tongue, key): shown(house.piece(tongue, key)) for tongue in house.tongues() for key in house.messages()
            if house.piece(tongue, key) is not None}


class PressTest(unittest.TestCase):
    def assert_left_out(self, house, written, expected, clashing=()):
        """That a book of these writings, of which some clash, is pressed in but for what is expected to be left out."""
        book = Book("ann")
        other = Book("bob")
        for handed in written:
            book.write(*handed)
        for handed in clashing:
            other.write(*handed)
        book.take_in(other)
        told = book.told()
        self.assertEqual(press(house, book, "en"), expected)
        self.assertEqual(book.told(), told)
        left = [row[:2] for row in expected]
        for tongue, key, writings in told:
            if (tongue, key) not in left:
                self.assertEqual(shown(house.piece(tongue, key)), writings[0][0])
            elif tongue != "en":
                self.assertIsNone(house.piece(tongue, key))


class TestEachWord(PressTest):
    def test_what_is_put_in(self):
        house = a_full_house()
        self.assert_left_out(house, [("de", "k", "{t}: {n}", "{n} {t}"), ("fr", "l", "salut", "hello")], [])
        self.assertEqual(pieces_in(house), {("en", "k"): "{n} {t}", ("en", "l"): "hello", ("de", "k"): "{t}: {n}",
                                            ("fr", "l"): "salut"})

    def test_unknown(self):
        house = a_full_house()
        put(house, "de", "m", "only here")
        self.assert_left_out(house, [("xx", "l", "x", "hello"), ("en", "l", "x", "hello"), ("de", "nokey", "x", "hello"),
                                     ("de", "m", "x", "hello"), ("de", "l", "x", "hello")],
                             [("de", "m", "unknown"), ("de", "nokey", "unknown"), ("en", "l", "unknown"),
                              ("xx", "l", "unknown")])
        self.assertEqual(shown(house.piece("en", "l")), "hello")

    def test_clash(self):
        self.assert_left_out(a_full_house(), [("de", "l", "a", "hello")], [("de", "l", "clash")],
                             [("de", "l", "b", "hello")])
        self.assert_left_out(a_full_house(), [("de", "l", "a", "hello")], [("de", "l", "clash")],
                             [("de", "l", "a", " hello")])
        self.assert_left_out(a_full_house(), [("de", "l", "a", "hello")], [], [("de", "l", "a", "hello")])

    def test_text(self):
        for text, first in (("{", "hello"), ("a", "{"), ("x" * 1000 + "]", "hello"), ("{n", "{n"), ("a", "[]")):
            self.assert_left_out(a_full_house(), [("de", "l", text, first)], [("de", "l", "text")])
        self.assert_left_out(a_full_house(), [("de", "l", "", "hello")], [])

    def test_stale(self):
        for first in ("", "hallo", "hello hello", "{n}", "Hello"):
            self.assert_left_out(a_full_house(), [("de", "l", "a", first)], [("de", "l", "stale")])
        for first in ("hello", " hello ", "hello  "):
            self.assert_left_out(a_full_house(), [("de", "l", "a", first)], [])
        house = a_full_house()
        put(house, "en", "l", "hi")
        self.assert_left_out(house, [("de", "l", "a", "hello"), ("fr", "l", "b", "hi")], [("de", "l", "stale")])

    def test_gaps(self):
        first = "{n} {t}"
        for text in ("{x}", "{#t one[]}", "{~n m[]}", "{^n low[]}", "{@nokey}", "{@k n=n}", "{@k n=n t=n}", "{@l n=n}"):
            self.assert_left_out(a_full_house(), [("de", "k", text, first)], [("de", "k", "gaps")])
        for text in ("{@k n=n t=t}", "{@l}", "{@m}", ""):
            self.assert_left_out(a_full_house(), [("de", "k", text, first)], [])

    def test_lacking(self):
        first = "{n} {t}"
        for text in ("{#n one[]}", "{~t f[]}", "{#n one[] other[{#n =2[]}]}", "{#n =0[] one[]}x"):
            self.assert_left_out(a_full_house(), [("de", "k", text, first)], [("de", "k", "lacking")])
        for text in ("{#n one[] other[]}", "{~t m[]}", "{#n x[{#n =2[]}] else[]}", "{@m}"):
            self.assert_left_out(a_full_house(), [("de", "k", text, first)], [])

    def test_lacking_by_itself_alone(self):
        house = a_full_house()
        put(house, "en", "k", "{#n one[{t}]}")
        self.assert_left_out(house, [("de", "l", "{@m}", "hello"), ("fr", "k", "{n}", "{#n one[{t}]}")], [])

    def test_lacking_with_the_texts_on_the_tongues_road(self):
        house = a_house([a_tongue("en"), a_tongue("de", ["en"]), a_tongue("fr", [])])
        house.word("en", "cat", "cat", "m")
        house.word("en", "dog", "dog", "f")
        house.declare("k", [("t", "thing")])
        put(house, "en", "k", "x")
        self.assert_left_out(house, [("de", "k", "{~t m[]}", "x"), ("fr", "k", "{~t m[]}", "x")], [("de", "k", "lacking")])


class TestTheFirstWordThatFits(PressTest):
    def test_unknown_first(self):
        self.assert_left_out(a_full_house(), [("xx", "k", "{", "{"), ("de", "m", "a", "x")],
                             [("de", "m", "unknown"), ("xx", "k", "unknown")], [("de", "m", "b", "x")])

    def test_clash_ahead_of_text(self):
        self.assert_left_out(a_full_house(), [("de", "l", "{", "{")], [("de", "l", "clash")], [("de", "l", "a", "{")])

    def test_text_ahead_of_stale_and_gaps(self):
        self.assert_left_out(a_full_house(), [("de", "l", "{", "other")], [("de", "l", "text")])
        self.assert_left_out(a_full_house(), [("de", "l", "{x}", "{")], [("de", "l", "text")])

    def test_stale_ahead_of_gaps_and_lacking(self):
        self.assert_left_out(a_full_house(), [("de", "l", "{x}", "other")], [("de", "l", "stale")])
        self.assert_left_out(a_full_house(), [("de", "k", "{#n one[]}", "other")], [("de", "k", "stale")])

    def test_gaps_ahead_of_lacking(self):
        self.assert_left_out(a_full_house(), [("de", "k", "{#n one[{x}]}", "{n} {t}")], [("de", "k", "gaps")])


class TestTheHouse(PressTest):
    def test_pieces_that_are_not_in_the_book_go(self):
        house = a_full_house()
        put(house, "de", "k", "old")
        put(house, "de", "l", "old")
        put(house, "fr", "m", "old")
        put(house, "en", "m", "stays")
        self.assertEqual(press(house, Book("ann"), "en"), [])
        self.assertEqual(pieces_in(house), {("en", "k"): "{n} {t}", ("en", "l"): "hello", ("en", "m"): "stays"})

    def test_a_piece_that_is_left_out_does_not_stay_as_it_was(self):
        house = a_full_house()
        put(house, "de", "l", "old")
        book = Book("ann")
        book.write("de", "l", "new", "stale")
        self.assertEqual(press(house, book, "en"), [("de", "l", "stale")])
        self.assertIsNone(house.piece("de", "l"))

    def test_another_first_tongue(self):
        house = a_full_house()
        put(house, "de", "l", "hallo")
        book = Book("ann")
        book.write("en", "l", "hi", "hallo")
        book.write("en", "k", "hi", "hallo")
        self.assertEqual(press(house, book, "de"), [("en", "k", "unknown")])
        self.assertEqual(pieces_in(house), {("de", "l"): "hallo", ("en", "l"): "hi"})

    def test_no_tongue(self):
        house = a_full_house()
        put(house, "de", "l", "old")
        before = copy.deepcopy(told_of(house)[5:])
        book = Book("ann")
        book.write("de", "l", "new", "hello")
        with self.assertRaises(NoTongue):
            press(house, book, "xx")
        self.assertEqual(told_of(house)[5:], before)

    def test_the_rest_of_the_house_stays(self):
        house = a_full_house()
        before = copy.deepcopy(told_of(house)[5:7])
        book = Book("ann")
        book.write("de", "l", "new", "hello")
        press(house, book, "en")
        self.assertEqual(told_of(house)[5:7], before)
        self.assertEqual(house.tongues(), ["de", "en", "fr"])

    def test_what_is_told_is_sorted_and_its_own(self):
        house = a_full_house()
        book = Book("ann")
        for tongue, key in (("xx", "b"), ("de", "m"), ("xx", "a"), ("de", "l"), ("fr", "l")):
            book.write(tongue, key, "{", "hello")
        told = press(house, book, "en")
        expected = [("de", "l", "text"), ("de", "m", "unknown"), ("fr", "l", "text"), ("xx", "a", "unknown"),
                    ("xx", "b", "unknown")]
        self.assertEqual(told, expected)
        told.clear()
        self.assertEqual(press(house, book, "en"), expected)


class TestRandom(PressTest):
    TEXTS = ["hello", "{n} {t}", "{", "{x}", "{#n one[]}", "{#n one[a] else[{t}]}", "", "{@l}", "{@nokey}", " hello "]

    def books(self, seed):
        rng = random.Random(seed)
        books = [Book(hand) for hand in ("ann", "bob", "cat")]
        for step in range(16):
            book = rng.choice(books)
            if rng.random() < 0.75:
                book.write(rng.choice(["de", "fr", "en", "xx"]), rng.choice(["k", "l", "m", "z"]), rng.choice(self.TEXTS),
                           rng.choice(["hello", "{n} {t}", "{n}  {t}", "{"]))
            else:
                book.take_in(rng.choice([each for each in books if each != book]))
        return books

    def test_pressed_twice_and_with_books_joined_in_another_order(self):
        words = {}
        for seed in range(80):
            answers = []
            for order in ((0, 1, 2), (2, 1, 0), (1, 2, 0)):
                books = self.books(seed)
                first = books[order[0]]
                first.take_in(books[order[1]])
                first.take_in(books[order[2]])
                house = a_full_house()
                put(house, "de", "m", "old")
                told = press(house, first, "en")
                answers.append((told, pieces_in(house)))
                self.assertEqual(press(house, first, "en"), told)
                answers.append((told, pieces_in(house)))
                for row in told:
                    words[row[2]] = True
            self.assertEqual([one for one in answers if one != answers[0]], [])
        self.assertEqual(sorted(words), ["clash", "gaps", "lacking", "stale", "text", "unknown"])


if __name__ == "__main__":
    unittest.main()
