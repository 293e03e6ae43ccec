"""Tokens of saywell.tokens: point [8]."""

import copy
import unittest

from saywell.patterns import read
from saywell.tokens import changed, tokens


class TestTokens(unittest.TestCase):
    def assert_tokens(self, text, expected):
        with self.subTest(text=text):
            self.assertEqual(tokens(read(text)), expected)

    def test_texts(self):
        self.assert_tokens("", [])
        self.assert_tokens(" ", [])
        self.assert_tokens("   ", [])
        self.assert_tokens("tile", [("word", "tile")])
        self.assert_tokens("a tile, a wall!", [("word", "a"), ("word", "tile,"), ("word", "a"), ("word", "wall!")])
        self.assert_tokens("  a   b ", [("word", "a"), ("word", "b")])

    def test_gaps(self):
        self.assert_tokens("{n}", [("gap", "n")])
        self.assert_tokens("x{n}y z", [("word", "x"), ("gap", "n"), ("word", "y"), ("word", "z")])
        self.assert_tokens("{n}{n}", [("gap", "n"), ("gap", "n")])

    def test_choices(self):
        self.assert_tokens("{#n =0[no tile] else[{n} tiles]}", [
            ("many", "n"), ("way", "=0"), ("word", "no"), ("word", "tile"), ("way", "else"), ("gap", "n"),
            ("word", "tiles"), ("end", "n")])
        self.assert_tokens("{~t m[] f[x]}", [("kind", "t"), ("way", "m"), ("way", "f"), ("word", "x"), ("end", "t")])
        self.assert_tokens("{^r a[ ]}", [("rank", "r"), ("way", "a"), ("end", "r")])

    def test_choices_in_one_another(self):
        self.assert_tokens("{#n a[{^r b[x]}y]}z", [
            ("many", "n"), ("way", "a"), ("rank", "r"), ("way", "b"), ("word", "x"), ("end", "r"), ("word", "y"),
            ("end", "n"), ("word", "z")])

    def test_calls(self):
        self.assert_tokens("{@key}", [("say", "key", ())])
        self.assert_tokens("{@key a=b c=b}", [("say", "key", (("a", "b"), ("c", "b")))])

    def test_what_is_told_is_its_own(self):
        pattern = read("a {#n b[{@k x=n}]}")
        kept = copy.deepcopy(pattern)
        told = tokens(pattern)
        told.clear()
        self.assertEqual(pattern, kept)
        later = tokens(pattern)
        pattern[1][2][0][1][0][2].append(("y", "n"))
        self.assertEqual(later, [("word", "a"), ("many", "n"), ("way", "b"), ("say", "k", (("x", "n"),)), ("end", "n")])


class TestChanged(unittest.TestCase):
    def assert_changed(self, old, new, expected):
        with self.subTest(old=old, new=new):
            self.assertEqual(changed(read(old), read(new)), expected)
            word, gone, come = expected
            self.assertEqual(changed(read(new), read(old)), (word, come, gone))

    def test_same(self):
        self.assert_changed("", "", ("same", [], []))
        self.assert_changed("a {n}", "a {n}", ("same", [], []))

    def test_blanks_alone_are_the_same(self):
        self.assert_changed("a b", "  a   b ", ("same", [], []))
        self.assert_changed("a{n}", "a {n} ", ("same", [], []))
        self.assert_changed("{#n a[x]}", " {#n a[ x ]} ", ("same", [], []))
        self.assert_changed(" ", "", ("same", [], []))

    def test_a_blank_that_parts_a_word_counts(self):
        self.assert_changed("ab", "a b", ("other", [("word", "ab")], [("word", "a"), ("word", "b")]))

    def test_order(self):
        self.assert_changed("a b", "b a", ("order", [], []))
        self.assert_changed("{n} x", "x {n}", ("order", [], []))
        self.assert_changed("{#n a[x] b[y]}", "{#n b[y] a[x]}", ("order", [], []))
        self.assert_changed("{#n a[x] b[y]}", "{#n a[y] b[x]}", ("order", [], []))
        self.assert_changed("x{#n a[]}", "{#n a[x]}", ("order", [], []))

    def test_other(self):
        self.assert_changed("a", "b", ("other", [("word", "a")], [("word", "b")]))
        self.assert_changed("a", "", ("other", [("word", "a")], []))
        self.assert_changed("{n}", "n", ("other", [("gap", "n")], [("word", "n")]))
        self.assert_changed("{#n a[]}", "{~n a[]}", ("other", [("many", "n")], [("kind", "n")]))
        self.assert_changed("{@k a=b c=d}", "{@k c=d a=b}",
                            ("other", [("say", "k", (("a", "b"), ("c", "d")))], [("say", "k", (("c", "d"), ("a", "b")))]))

    def test_as_many_times_as_one_has_more(self):
        self.assert_changed("a a a b", "a c c", ("other", [("word", "a"), ("word", "a"), ("word", "b")],
                                                 [("word", "c"), ("word", "c")]))
        self.assert_changed("{n}{n}", "{n}", ("other", [("gap", "n")], []))

    def test_sorted(self):
        word, gone, come = changed(read("z {n} a {@k x=y} {@k} {#m b[]} Z"), read("y x"))
        self.assertEqual(word, "other")
        self.assertEqual(gone, sorted(gone))
        self.assertEqual(gone, [("end", "m"), ("gap", "n"), ("many", "m"), ("say", "k", ()), ("say", "k", (("x", "y"),)),
                                ("way", "b"), ("word", "Z"), ("word", "a"), ("word", "z")])
        self.assertEqual(come, [("word", "x"), ("word", "y")])

    def test_what_is_handed_in_stays_and_what_is_told_is_its_own(self):
        old = read("a a {@k x=n}")
        new = read("b {n}")
        kept = (copy.deepcopy(old), copy.deepcopy(new))
        word, gone, come = changed(old, new)
        gone.clear()
        come.append(1)
        self.assertEqual((old, new), kept)
        self.assertEqual(changed(old, new), ("other", [("say", "k", (("x", "n"),)), ("word", "a"), ("word", "a")],
                                             [("gap", "n"), ("word", "b")]))


if __name__ == "__main__":
    unittest.main()
