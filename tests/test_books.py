"""The translators' books, of saywell.books: points [27], and (f) of [4]."""

import copy
import itertools
import random
import unittest

from saywell.books import Book
from saywell.errors import NoWriting


def all_of(book):
    return (book.told(), book.clashes())


class BookTest(unittest.TestCase):
    def assert_no_writing(self, book, tongue, key):
        with self.subTest(tongue=tongue, key=key), self.assertRaises(NoWriting):
            book.writing(tongue, key)


class TestOneHand(BookTest):
    def test_an_empty_book(self):
        book = Book("ann")
        self.assertEqual(book.told(), [])
        self.assertEqual(book.clashes(), [])
        self.assert_no_writing(book, "de", "k")

    def test_a_hand_alone(self):
        book = Book("ann")
        book.write("fr", "k", "bonjour", "hello")
        book.write("de", "l", "x", "y")
        book.write("de", "k", "hallo", "hello")
        self.assertEqual(book.told(), [("de", "k", [("hallo", "hello")]), ("de", "l", [("x", "y")]),
                                       ("fr", "k", [("bonjour", "hello")])])
        self.assertEqual(book.clashes(), [])
        self.assertEqual(book.writing("de", "k"), ("hallo", "hello"))
        self.assert_no_writing(book, "fr", "l")

    def test_a_later_writing_has_seen_the_earlier_ones(self):
        book = Book("ann")
        for text in ("a", "b", "a", "c"):
            book.write("de", "k", text, "first")
            self.assertEqual(book.told(), [("de", "k", [(text, "first")])])
            self.assertEqual(book.clashes(), [])

    def test_texts_that_are_no_patterns(self):
        book = Book("ann")
        book.write("de", "k", "{{{", "")
        book.write("de", "l", "", "}]" * 500)
        self.assertEqual(book.told(), [("de", "k", [("{{{", "")]), ("de", "l", [("", "}]" * 500)])])

    def test_two_books_know_nothing_of_one_another(self):
        one = Book("ann")
        other = Book("bob")
        one.write("de", "k", "a", "f")
        self.assertEqual(other.told(), [])

    def test_lists_told_stay_as_they_were_told(self):
        book = Book("ann")
        book.write("de", "k", "a", "f")
        told = book.told()
        clashes = book.clashes()
        other = Book("bob")
        other.write("de", "k", "b", "f")
        book.take_in(other)
        self.assertEqual(told, [("de", "k", [("a", "f")])])
        self.assertEqual(clashes, [])
        later = book.told()
        later[0][2].clear()
        later.clear()
        book.clashes().clear()
        self.assertEqual(book.told(), [("de", "k", [("a", "f"), ("b", "f")])])
        self.assertEqual(book.clashes(), [("de", "k")])


class TestTwoHands(BookTest):
    def test_joining(self):
        ann = Book("ann")
        bob = Book("bob")
        ann.write("de", "k", "a", "f")
        bob.write("de", "l", "b", "f")
        before = all_of(bob)
        ann.take_in(bob)
        self.assertEqual(all_of(bob), before)
        self.assertEqual(ann.told(), [("de", "k", [("a", "f")]), ("de", "l", [("b", "f")])])
        ann.take_in(bob)
        self.assertEqual(ann.told(), [("de", "k", [("a", "f")]), ("de", "l", [("b", "f")])])

    def test_a_clash_and_its_settling(self):
        ann = Book("ann")
        bob = Book("bob")
        ann.write("de", "k", "b", "f")
        bob.write("de", "k", "a", "f")
        ann.take_in(bob)
        self.assertEqual(ann.told(), [("de", "k", [("a", "f"), ("b", "f")])])
        self.assertEqual(ann.clashes(), [("de", "k")])
        self.assert_no_writing(ann, "de", "k")
        self.assertEqual(bob.clashes(), [])
        ann.write("de", "k", "c", "f")
        self.assertEqual(ann.told(), [("de", "k", [("c", "f")])])
        self.assertEqual(ann.writing("de", "k"), ("c", "f"))
        bob.take_in(ann)
        self.assertEqual(all_of(bob), all_of(ann))
        ann.take_in(bob)
        self.assertEqual(ann.told(), [("de", "k", [("c", "f")])])

    def test_unlike_in_first_make_alone(self):
        ann = Book("ann")
        bob = Book("bob")
        ann.write("de", "k", "a", "f")
        bob.write("de", "k", "a", "g")
        ann.take_in(bob)
        self.assertEqual(ann.told(), [("de", "k", [("a", "f"), ("a", "g")])])
        self.assertEqual(ann.clashes(), [("de", "k")])

    def test_alike_writings_of_two_hands(self):
        ann = Book("ann")
        bob = Book("bob")
        ann.write("de", "k", "a", "f")
        bob.write("de", "k", "a", "f")
        ann.take_in(bob)
        self.assertEqual(ann.told(), [("de", "k", [("a", "f")])])
        self.assertEqual(ann.clashes(), [])
        self.assertEqual(ann.writing("de", "k"), ("a", "f"))
        bob.write("de", "k", "b", "f")
        ann.take_in(bob)
        self.assertEqual(ann.told(), [("de", "k", [("a", "f"), ("b", "f")])])

    def test_alike_writings_of_one_hand_are_two(self):
        ann = Book("ann")
        bob = Book("bob")
        ann.write("de", "k", "a", "f")
        bob.take_in(ann)
        bob.write("de", "k", "b", "f")
        ann.write("de", "k", "a", "f")
        ann.take_in(bob)
        self.assertEqual(ann.told(), [("de", "k", [("a", "f"), ("b", "f")])])

    def test_an_earlier_writing_that_comes_back_is_seen(self):
        ann = Book("ann")
        bob = Book("bob")
        cat = Book("cat")
        ann.write("de", "k", "a", "f")
        cat.take_in(ann)
        bob.take_in(ann)
        bob.write("de", "k", "b", "f")
        bob.write("de", "k", "c", "f")
        ann.take_in(bob)
        ann.take_in(cat)
        self.assertEqual(ann.told(), [("de", "k", [("c", "f")])])
        cat.take_in(ann)
        self.assertEqual(cat.told(), [("de", "k", [("c", "f")])])

    def test_who_saw_what_through_a_third_one(self):
        ann = Book("ann")
        bob = Book("bob")
        cat = Book("cat")
        ann.write("de", "k", "a", "f")
        bob.take_in(ann)
        cat.take_in(bob)
        cat.write("de", "k", "c", "f")
        ann.take_in(cat)
        self.assertEqual(ann.told(), [("de", "k", [("c", "f")])])
        bob.write("de", "k", "b", "f")
        ann.take_in(bob)
        self.assertEqual(ann.clashes(), [("de", "k")])

    def test_other_pieces_are_not_seen(self):
        ann = Book("ann")
        bob = Book("bob")
        ann.write("de", "k", "a", "f")
        bob.take_in(ann)
        bob.write("de", "l", "b", "f")
        bob.write("fr", "k", "b", "f")
        ann.write("de", "l", "a", "f")
        ann.take_in(bob)
        self.assertEqual(ann.told(), [("de", "k", [("a", "f")]), ("de", "l", [("a", "f"), ("b", "f")]),
                                      ("fr", "k", [("b", "f")])])
        self.assertEqual(ann.clashes(), [("de", "l")])

    def test_a_book_that_takes_in_itself(self):
        ann = Book("ann")
        ann.write("de", "k", "a", "f")
        ann.take_in(ann)
        self.assertEqual(ann.told(), [("de", "k", [("a", "f")])])

    def test_what_comes_later_does_not_come_along(self):
        ann = Book("ann")
        bob = Book("bob")
        ann.write("de", "k", "a", "f")
        bob.take_in(ann)
        ann.write("de", "k", "b", "f")
        self.assertEqual(bob.told(), [("de", "k", [("a", "f")])])
        bob.write("de", "k", "c", "f")
        self.assertEqual(ann.told(), [("de", "k", [("b", "f")])])
        bob.take_in(ann)
        self.assertEqual(bob.told(), [("de", "k", [("b", "f"), ("c", "f")])])

    def test_two_books_of_one_hand_in_a_third_ones(self):
        one = Book("ann")
        other = Book("ann")
        bob = Book("bob")
        one.write("de", "k", "a", "f")
        other.write("de", "k", "b", "f")
        other.write("de", "k", "c", "f")
        bob.take_in(one)
        bob.take_in(other)
        self.assertEqual(bob.told(), [("de", "k", [("a", "f"), ("c", "f")])])


class Model:
    """The words of [27] taken as they are: every writing ever had, with all that it has seen."""

    def __init__(self, hand):
        self.hand = hand
        self.had = []

    def held(self, piece):
        mine = [writing for writing in self.had if writing["piece"] == piece]
        return [one for one in mine if not any([one in other["seen"] for other in mine if other is not one])]

    def pieces(self):
        return sorted(set([writing["piece"] for writing in self.had]))

    def write(self, tongue, key, text, first, number):
        seen = []
        for one in self.held((tongue, key)):
            seen.append(one)
            seen.extend(one["seen"])
        self.had.append({"piece": (tongue, key), "text": text, "first": first, "seen": seen, "number": number})

    def take_in(self, other):
        for piece in other.pieces():
            self.had.extend([one for one in other.held(piece) if not any([one is each for each in self.had])])

    def told(self):
        return [piece + (sorted(set([(one["text"], one["first"]) for one in self.held(piece)])),)
                for piece in self.pieces()]


class TestRandom(BookTest):
    def test_against_the_words(self):
        rng = random.Random(111)
        clashes = 0
        for k in range(60):
            hands = ["ann", "bob", "cat", "dan"][:rng.randrange(2, 5)]
            books = {hand: Book(hand) for hand in hands}
            models = {hand: Model(hand) for hand in hands}
            for step in range(25):
                hand = rng.choice(hands)
                if rng.random() < 0.5:
                    handed = (rng.choice(["de", "fr"]), rng.choice(["k", "l"]), rng.choice("abc"), rng.choice("fg"))
                    books[hand].write(*handed)
                    models[hand].write(*handed, step + k * 100)
                else:
                    other = rng.choice([each for each in hands if each != hand])
                    books[hand].take_in(books[other])
                    models[hand].take_in(models[other])
                for each in hands:
                    self.assertEqual(books[each].told(), models[each].told())
                    self.assertEqual(books[each].clashes(), [row[:2] for row in models[each].told() if len(row[2]) > 1])
                    clashes = clashes + len(books[each].clashes())
                    for tongue, key, pairs in models[each].told():
                        if len(pairs) == 1:
                            self.assertEqual(books[each].writing(tongue, key), pairs[0])
                        else:
                            self.assert_no_writing(books[each], tongue, key)
        self.assertGreater(clashes, 50)

    def made(self, seed):
        """Books of four hands that have written and partly joined."""
        rng = random.Random(seed)
        books = [Book(hand) for hand in ("ann", "bob", "cat", "dan")]
        for step in range(14):
            book = rng.choice(books)
            if rng.random() < 0.6:
                book.write(rng.choice(["de", "fr"]), "k", rng.choice("abc"), "f")
            else:
                book.take_in(rng.choice([each for each in books if each != book]))
        return books

    def test_joined_in_any_order_from_either_side_once_and_twice(self):
        for seed in range(25):
            told = []
            for order in itertools.permutations(range(4)):
                books = self.made(seed)
                first = books[order[0]]
                for number in order[1:]:
                    first.take_in(books[number])
                told.append(all_of(first))
                for number in order[1:] + order[1:]:
                    first.take_in(books[number])
                told.append(all_of(first))
                for number in order[1:]:
                    books[number].take_in(first)
                    told.append(all_of(books[number]))
            books = self.made(seed)
            books[0].take_in(books[1])
            books[2].take_in(books[3])
            books[2].take_in(books[0])
            told.append(all_of(books[2]))
            self.assertEqual([one for one in told if one != told[0]], [])

    def test_the_book_that_is_taken_in_stays(self):
        for seed in range(25):
            books = self.made(seed)
            before = [copy.deepcopy(all_of(book)) for book in books]
            books[0].take_in(books[1])
            books[0].write("de", "k", "z", "f")
            self.assertEqual([all_of(book) for book in books[1:]], before[1:])


if __name__ == "__main__":
    unittest.main()
