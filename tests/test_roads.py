"""Roads and owners, of saywell.roads: points [18] to [20]."""

import random
import unittest

from saywell.errors import NoTongue
from saywell.patterns import calls_of
from saywell.roads import owner, road, stands_alone, word_of
from helper import a_house, a_tongue, put


def house_of(falls, things=("cat", "dog")):
    return a_house([a_tongue(name, falls=row) for name, row in falls.items()], things=things)


class TestRoad(unittest.TestCase):
    def assert_road(self, falls, name, expected):
        self.assertEqual(road(house_of(falls), name), expected)

    def test_itself_alone(self):
        self.assert_road({"a": []}, "a", ["a"])
        self.assert_road({"a": [], "b": []}, "b", ["b"])

    def test_name_by_name(self):
        falls = {"a": ["b", "c"], "b": ["d"], "c": ["e"], "d": ["f"], "e": [], "f": []}
        self.assert_road(falls, "a", ["a", "b", "c", "d", "e", "f"])
        self.assert_road(falls, "b", ["b", "d", "f"])
        self.assert_road({"a": ["c", "b"], "b": [], "c": ["d"], "d": []}, "a", ["a", "c", "b", "d"])

    def test_each_name_once(self):
        self.assert_road({"a": ["b", "c", "b"], "b": ["c"], "c": ["b"]}, "a", ["a", "b", "c"])
        self.assert_road({"a": ["b", "c"], "b": ["d", "c"], "c": ["d"], "d": []}, "a", ["a", "b", "c", "d"])

    def test_round_and_round(self):
        self.assert_road({"a": ["a"]}, "a", ["a"])
        self.assert_road({"a": ["b"], "b": ["a"]}, "a", ["a", "b"])
        self.assert_road({"a": ["b"], "b": ["a"]}, "b", ["b", "a"])
        self.assert_road({"a": ["b"], "b": ["c"], "c": ["a", "b"]}, "c", ["c", "a", "b"])

    def test_names_that_are_no_tongue(self):
        self.assert_road({"a": ["x", "b", "y"], "b": ["z"]}, "a", ["a", "b"])

    def test_a_tongue_that_comes_later(self):
        house = house_of({"a": ["b", "c"], "c": []})
        self.assertEqual(road(house, "a"), ["a", "c"])
        house.add(a_tongue("b", falls=["d"]))
        house.add(a_tongue("d"))
        self.assertEqual(road(house, "a"), ["a", "b", "c", "d"])

    def test_no_tongue(self):
        house = house_of({"a": ["b"]})
        for name in ("b", "x", "aa"):
            with self.assertRaises(NoTongue):
                road(house, name)

    def test_what_is_told_is_its_own(self):
        house = house_of({"a": ["b"], "b": []})
        road(house, "a").clear()
        self.assertEqual(road(house, "a"), ["a", "b"])


class TestOwner(unittest.TestCase):
    def house(self):
        house = house_of({"a": ["b", "c"], "b": ["d"], "c": [], "d": ["a"], "e": []})
        house.declare("k", [])
        return house

    def test_the_first_on_the_road(self):
        house = self.house()
        self.assertIsNone(owner(house, "a", "k"))
        put(house, "d", "k", "x")
        self.assertEqual(owner(house, "a", "k"), "d")
        put(house, "c", "k", "x")
        self.assertEqual(owner(house, "a", "k"), "c")
        self.assertEqual(owner(house, "b", "k"), "d")
        put(house, "a", "k", "")
        self.assertEqual(owner(house, "a", "k"), "a")
        self.assertEqual(owner(house, "d", "k"), "d")
        self.assertIsNone(owner(house, "e", "k"))
        house.drop("a", "k")
        self.assertEqual(owner(house, "a", "k"), "c")

    def test_not_declared(self):
        self.assertIsNone(owner(self.house(), "a", "x"))

    def test_no_tongue(self):
        house = self.house()
        put(house, "a", "k", "x")
        for key in ("k", "x"):
            with self.assertRaises(NoTongue):
                owner(house, "x", key)


class TestWordOf(unittest.TestCase):
    def test_the_first_on_the_road(self):
        house = house_of({"a": ["b", "c"], "b": [], "c": ["a"]})
        house.word("c", "cat", "Chat", "m")
        self.assertEqual(word_of(house, "a", "cat"), ("c", "Chat", "m"))
        self.assertIsNone(word_of(house, "b", "cat"))
        house.word("b", "cat", "Kat", "f")
        self.assertEqual(word_of(house, "a", "cat"), ("b", "Kat", "f"))
        house.word("a", "cat", "Cat", "m")
        self.assertEqual(word_of(house, "a", "cat"), ("a", "Cat", "m"))
        self.assertEqual(word_of(house, "c", "cat"), ("c", "Chat", "m"))
        self.assertIsNone(word_of(house, "a", "dog"))
        self.assertIsNone(word_of(house, "a", "nothing"))

    def test_no_tongue(self):
        with self.assertRaises(NoTongue):
            word_of(house_of({"a": []}), "x", "cat")


class TestStandsAlone(unittest.TestCase):
    def house(self):
        house = house_of({"a": ["b"], "b": ["a"]})
        house.declare("k", [], whole=True)
        house.declare("m", [])
        house.declare("n", [])
        house.declare("t", [("x", "thing")])
        house.declare("w", [("x", "thing")], whole=True)
        house.declare("l", [("x", "list")])
        return house

    def test_its_own_piece(self):
        house = self.house()
        self.assertIs(stands_alone(house, "a", "k"), False)
        put(house, "a", "k", "x")
        self.assertIs(stands_alone(house, "a", "k"), True)
        self.assertIs(stands_alone(house, "b", "k"), False)

    def test_names_that_are_none(self):
        house = self.house()
        put(house, "a", "k", "x")
        for tongue, key in (("x", "k"), ("a", "x"), ("x", "x")):
            self.assertIs(stands_alone(house, tongue, key), False)

    def test_messages_that_it_calls(self):
        house = self.house()
        put(house, "a", "k", "x{@m}")
        self.assertIs(stands_alone(house, "a", "k"), False)
        put(house, "b", "m", "y")
        self.assertIs(stands_alone(house, "a", "k"), False)
        put(house, "a", "m", "y{@n}")
        self.assertIs(stands_alone(house, "a", "k"), False)
        put(house, "a", "n", "")
        self.assertIs(stands_alone(house, "a", "k"), True)

    def test_calls_within_arms(self):
        house = self.house()
        house.declare("r", [("g", "rank")])
        put(house, "a", "r", "{^g low[{^g high[{@m}]}] else[]}")
        self.assertIs(stands_alone(house, "a", "r"), False)
        put(house, "a", "m", "")
        self.assertIs(stands_alone(house, "a", "r"), True)

    def test_round_calls(self):
        house = self.house()
        put(house, "a", "k", "{@k}")
        self.assertIs(stands_alone(house, "a", "k"), True)
        put(house, "a", "k", "{@m}")
        put(house, "a", "m", "{@n}")
        self.assertIs(stands_alone(house, "a", "k"), False)
        put(house, "a", "n", "{@k}{@m}")
        self.assertIs(stands_alone(house, "a", "k"), True)
        self.assertIs(stands_alone(house, "a", "n"), True)

    def test_texts_of_things(self):
        for key in ("t", "l", "w"):
            house = self.house()
            put(house, "a", key, "x")
            self.assertIs(stands_alone(house, "a", key), False)
            house.word("a", "cat", "Cat", "m")
            house.word("b", "dog", "Dog", "m")
            self.assertIs(stands_alone(house, "a", key), False)
            house.word("a", "dog", "Dog", "m")
            self.assertIs(stands_alone(house, "a", key), True)

    def test_texts_of_things_for_a_message_called(self):
        house = self.house()
        house.declare("s", [("y", "thing"), ("z", "count")])
        house.declare("q", [("r", "rank")])
        put(house, "a", "q", "{^r low[{@m}] else[]}")
        put(house, "a", "m", "plain")
        self.assertIs(stands_alone(house, "a", "q"), True)
        put(house, "a", "s", "{@t x=y}")
        put(house, "a", "t", "no thing shown")
        self.assertIs(stands_alone(house, "a", "s"), False)
        for thing in house.things():
            house.word("a", thing, "Text", "m")
        self.assertIs(stands_alone(house, "a", "s"), True)

    def test_the_owner_of_a_message_marked_whole(self):
        house = self.house()
        put(house, "a", "k", "{@m}")
        put(house, "b", "k", "{@m}")
        put(house, "b", "m", "y")
        self.assertEqual(owner(house, "a", "k"), "b")
        self.assertEqual(owner(house, "b", "k"), "b")
        self.assertEqual(owner(house, "a", "m"), "b")
        put(house, "a", "m", "z")
        self.assertEqual(owner(house, "a", "k"), "a")
        house.drop("b", "m")
        self.assertEqual(owner(house, "b", "k"), "a")
        house.drop("a", "m")
        self.assertIsNone(owner(house, "a", "k"))

    def test_the_owner_of_a_whole_message_with_things(self):
        house = self.house()
        put(house, "a", "w", "{x}")
        put(house, "b", "w", "{x}")
        self.assertIsNone(owner(house, "a", "w"))
        house.word("a", "cat", "Cat", "m")
        house.word("b", "cat", "Kat", "m")
        house.word("b", "dog", "Dok", "m")
        self.assertEqual(owner(house, "a", "w"), "b")
        house.word("a", "dog", "Dog", "m")
        self.assertEqual(owner(house, "a", "w"), "a")


class TestRandom(unittest.TestCase):
    """Against answers that go through everything again and again until nothing changes."""

    def plain_road(self, falls, name):
        names = [name]
        for k in range(20):
            for each in list(names):
                for fallen in falls[each]:
                    if fallen in falls and fallen not in names:
                        names.append(fallen)
                        break
                else:
                    continue
                break
        return names

    def plainly_alone(self, house, tongue, key):
        keys = {key}
        for k in range(20):
            for each in list(keys):
                if house.piece(tongue, each) is None:
                    return False
                keys.update(calls_of(house.piece(tongue, each)))
        if any([kind in ("thing", "list") for each in keys for gap, kind in house.gaps(each)]):
            return None not in [house.own_word(tongue, thing) for thing in house.things()]
        return True

    def test_random_houses(self):
        rng = random.Random(61)
        for k in range(150):
            names = list("abcdef")[:rng.randrange(1, 7)]
            falls = {name: rng.sample(names + ["x"], rng.randrange(len(names) + 1)) for name in names}
            house = house_of(falls)
            keys = ["k", "l", "m", "n"]
            for key in keys:
                house.declare(key, rng.choice([[], [], [("x", "thing")], [("x", "count")]]), rng.random() < 0.4)
            free = [key for key in keys if house.gaps(key) == []]
            for name in names:
                for key in keys:
                    if rng.random() < 0.5:
                        put(house, name, key, "".join(["{@" + each + "}" for each in free if rng.random() < 0.4]))
                for thing in house.things():
                    if rng.random() < 0.7:
                        house.word(name, thing, "Text", "m")
            for name in names:
                self.assertEqual(road(house, name), self.plain_road(falls, name))
                for thing in house.things():
                    found = [each for each in self.plain_road(falls, name) if house.own_word(each, thing)]
                    self.assertEqual(word_of(house, name, thing), (found[0], "Text", "m") if found else None)
                for key in keys:
                    self.assertIs(stands_alone(house, name, key), self.plainly_alone(house, name, key))
                    found = [each for each in self.plain_road(falls, name) if (
                        self.plainly_alone(house, each, key) if house.is_whole(key) else
                        house.piece(each, key) is not None)]
                    self.assertEqual(owner(house, name, key), found[0] if found else None)


if __name__ == "__main__":
    unittest.main()
