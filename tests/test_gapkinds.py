"""Values of gaps and their texts, of saywell.gapkinds: points [17] and [19]."""

import unittest

from saywell.errors import NoThing
from saywell.gapkinds import is_value, value_text
from helper import GREAT, a_house, a_tongue

KINDS = ["count", "number", "thing", "list", "day", "rank"]


class TestIsValue(unittest.TestCase):
    def assert_values(self, kind, good, bad):
        house = a_house(["de"])
        for value in good:
            with self.subTest(kind=kind, value=value):
                self.assertIs(is_value(house, kind, value), True)
        for value in bad:
            with self.subTest(kind=kind, value=value):
                self.assertIs(is_value(house, kind, value), False)

    def test_counts_and_days(self):
        for kind in ("count", "day"):
            self.assert_values(kind, [0, 1, 7, 10 ** 59, GREAT - 1],
                               [-1, GREAT, GREAT + 1, -GREAT, True, False, None, "", "1", "cat", [], [1]])

    def test_numbers(self):
        self.assert_values("number", [0, 1, -1, GREAT - 1, 1 - GREAT],
                           [GREAT, -GREAT, GREAT + 1, -GREAT - 1, True, False, None, "", "0", [], [0]])

    def test_things(self):
        self.assert_values("thing", ["cat", "dog"],
                           ["", "cow", "Cat", "cats", "low", "m", 0, 1, True, False, None, [], ["cat"]])

    def test_ranks(self):
        self.assert_values("rank", ["low", "high"],
                           ["", "Low", "cat", "m", "lo", 0, 1, True, False, None, [], ["low"]])

    def test_lists(self):
        self.assert_values("list", [[], ["cat"], ["cat", "cat"], ["dog", "cat"] * 4, ["dog"] * 8],
                           [["cat"] * 9, ["cow"], ["cat", "cow"], ["cat", 1], [True], [None], [""], ["low"], [[]],
                            [["cat"]], "cat", "", 0, True, False, None])

    def test_values_stay(self):
        value = ["dog", "cat"]
        is_value(a_house(["de"]), "list", value)
        self.assertEqual(value, ["dog", "cat"])


class TestValueText(unittest.TestCase):
    def house(self):
        house = a_house([
            a_tongue("de", ["en"], joiners=("nichts", " und ", ", ", " sowie "), figures=(3, 3, ".", "~", "0123456789"),
                     dayform=("dmy", ". ", None)),
            a_tongue("en", [], dayform=("mdy", "/", None)),
        ])
        house.word("de", "cat", "Katze", "f")
        house.word("en", "cat", "cat", "m")
        house.word("en", "dog", "dog", "m")
        return house

    def test_counts_and_numbers(self):
        house = self.house()
        self.assertEqual(value_text(house, "de", "count", 0), "0")
        self.assertEqual(value_text(house, "de", "count", 1234567), "1.234.567")
        self.assertEqual(value_text(house, "en", "count", 1234567), "1,234,567")
        self.assertEqual(value_text(house, "de", "number", -1234), "~1.234")
        self.assertEqual(value_text(house, "en", "number", -5), "-5")
        self.assertEqual(value_text(house, "en", "number", GREAT - 1), ",".join(["999"] * 20))

    def test_things(self):
        house = self.house()
        self.assertEqual(value_text(house, "de", "thing", "cat"), "Katze")
        self.assertEqual(value_text(house, "en", "thing", "cat"), "cat")
        self.assertEqual(value_text(house, "de", "thing", "dog"), "dog")

    def test_lists(self):
        house = self.house()
        self.assertEqual(value_text(house, "de", "list", []), "nichts")
        self.assertEqual(value_text(house, "de", "list", ["dog"]), "dog")
        self.assertEqual(value_text(house, "de", "list", ["cat", "dog"]), "Katze und dog")
        self.assertEqual(value_text(house, "de", "list", ["cat", "dog", "cat", "cat"]), "Katze, dog, Katze sowie Katze")
        self.assertEqual(value_text(house, "en", "list", ["cat", "dog", "cat"]), "cat, dog and cat")

    def test_days(self):
        house = self.house()
        self.assertEqual(value_text(house, "de", "day", 59), "29. 2. 0")
        self.assertEqual(value_text(house, "en", "day", 59), "2/29/0")

    def test_things_without_a_text(self):
        house = a_house([a_tongue("de", ["en"]), a_tongue("en", [])])
        house.word("de", "cat", "Katze", "f")
        for tongue, kind, value in (("de", "thing", "dog"), ("en", "thing", "cat"), ("de", "list", ["dog"]),
                                    ("de", "list", ["cat", "dog"]), ("en", "list", ["cat"])):
            with self.subTest(tongue=tongue, value=value), self.assertRaises(NoThing):
                value_text(house, tongue, kind, value)
        self.assertEqual(value_text(house, "en", "list", []), "nothing")
        self.assertEqual(value_text(house, "de", "list", ["cat", "cat"]), "Katze and Katze")


if __name__ == "__main__":
    unittest.main()
