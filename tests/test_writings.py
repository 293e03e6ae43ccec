"""When a writing is stale, of saywell.writings: point [28]."""

import unittest

from saywell.writings import stale


class TestStale(unittest.TestCase):
    def assert_stale(self, first, now, expected):
        with self.subTest(first=first, now=now):
            self.assertIs(stale(first, now), expected)
            self.assertIs(stale(now, first), expected)

    def test_the_same(self):
        for text in ("", "a tile", "{#n =0[no tile] one[a tile] else[{n} tiles]}", "{@key a=b}"):
            self.assert_stale(text, text, False)

    def test_blanks_alone(self):
        self.assert_stale("a tile", " a   tile  ", False)
        self.assert_stale("", "   ", False)
        self.assert_stale("a{n}b", "a {n} b", False)
        self.assert_stale("{#n one[a b]}", "{#n one[ a  b ]} ", False)
        self.assert_stale("ab", "a b", True)

    def test_words(self):
        self.assert_stale("a tile", "a tiles", True)
        self.assert_stale("a tile", "a", True)
        self.assert_stale("a tile", "tile a", True)
        self.assert_stale("a tile", "A tile", True)
        self.assert_stale("a a", "a", True)

    def test_gaps(self):
        self.assert_stale("{n}", "{m}", True)
        self.assert_stale("{n}", "n", True)
        self.assert_stale("{n}{m}", "{m}{n}", True)
        self.assert_stale("{n} x", "x {n}", True)

    def test_arms(self):
        self.assert_stale("{#n one[a] else[b]}", "{#n else[b] one[a]}", True)
        self.assert_stale("{#n one[a] else[b]}", "{#n one[b] else[a]}", True)
        self.assert_stale("{#n one[a]}", "{~n one[a]}", True)
        self.assert_stale("{#n one[a]}", "{#n one[a] else[a]}", True)
        self.assert_stale("{#n one[a]}", "{#m one[a]}", True)
        self.assert_stale("{#n one[]}a", "{#n one[a]}", True)

    def test_binds(self):
        self.assert_stale("{@k a=b}", "{@k a=c}", True)
        self.assert_stale("{@k a=b c=d}", "{@k c=d a=b}", True)
        self.assert_stale("{@k}", "{@l}", True)
        self.assert_stale("{@k}", "{@k a=b}", True)


if __name__ == "__main__":
    unittest.main()
