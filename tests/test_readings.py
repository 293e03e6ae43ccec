"""Readings of texts, of saywell.readings: points [25] and [26]."""

import copy
import itertools
import random
import unittest

from saywell.errors import Flawed, NoMessage, NoTongue, SayError, TooMany
from saywell.looks import flaws
from saywell.readings import readings
from saywell.roads import word_of
from saywell.rules import way_of
from saywell.saying import say
from helper import GREAT, a_house, a_tongue, put, some_house, some_values, told_of

SLAVIC = "one: self in 1..1; few: (rest 10 in 2..4 and not rest 100 in 12..14); many"
DASHES = ("", "-", "-", "-")


def house_with(text, gaps, words=(("cat", "cat", "m"), ("dog", "dog", "f")), things=("cat", "dog"), **more):
    house = a_house([a_tongue("de", [], **more)], things=things)
    for thing, row, kind in words:
        house.word("de", thing, row, kind)
    house.declare("k", gaps)
    put(house, "de", "k", text)
    return house


def passes(house, test, value):
    """Whether a value takes the arm that a test names, straight from [12]."""
    name, how, names, arm = test
    words = [value]
    if how == "many":
        number = len(value) if isinstance(value, list) else value
        words = ["=" + str(number), way_of(house.tongue_named(name).rules, number)]
    if how == "kind":
        words = [word_of(house, name, value)[2]]
    return [word for word in words + ["else"] if word in names][:1] == [arm]


def matches(house, reading, values):
    """Whether these values are the shown ones of a reading and fit its tests."""
    for row in reading:
        value = values[row[0]]
        if row[1] == "shown" and value != row[2]:
            return False
        if row[1] == "hidden" and not all([passes(house, test, value) for test in row[2]]):
            return False
    return True


def least_ones(reading):
    return {row[0]: row[2] if row[1] == "shown" else row[3] for row in reading}


class ReadingTest(unittest.TestCase):
    def assert_readings(self, house, text, expected, key="k"):
        with self.subTest(text=text):
            told = readings(house, "de", key, text)
            self.assertEqual(sorted(told, key=repr), sorted(expected, key=repr))
            for reading in told:
                self.assertEqual(say(house, "de", key, least_ones(reading)), text)

    def assert_too_many(self, house, text):
        with self.subTest(text=text), self.assertRaises(TooMany):
            readings(house, "de", "k", text)


class TestShown(ReadingTest):
    def test_no_gap(self):
        house = house_with("hello", [])
        self.assert_readings(house, "hello", [[]])
        for text in ("", "hell", "hello!", "Hello", " hello"):
            self.assert_readings(house, text, [])
        house = house_with("", [])
        self.assert_readings(house, "", [[]])
        self.assert_readings(house, "x", [])

    def test_counts_and_numbers(self):
        house = house_with("{n} tiles", [("n", "count")])
        self.assert_readings(house, "0 tiles", [[("n", "shown", 0)]])
        self.assert_readings(house, "1,234 tiles", [[("n", "shown", 1234)]])
        self.assert_readings(house, "9" + ",999" * 19 + " tiles", [[("n", "shown", 10 ** 58 - 1)]])
        for text in ("-1 tiles", "1234 tiles", "01 tiles", " tiles", "1, tiles", "1 tile", "one tiles", "1 tiles "):
            self.assert_readings(house, text, [])
        house = house_with("{n}", [("n", "number")])
        self.assert_readings(house, "-1,000", [[("n", "shown", -1000)]])
        self.assert_readings(house, "999" + ",999" * 19, [[("n", "shown", GREAT - 1)]])
        self.assert_readings(house, "-999" + ",999" * 19, [[("n", "shown", 1 - GREAT)]])
        self.assert_readings(house, "1" + ",000" * 20, [])
        self.assert_readings(house, "-0", [])

    def test_two_gaps_side_by_side(self):
        house = house_with("{n}{m}", [("n", "count"), ("m", "count")], figures=(3, 3, "", "-", "0123456789"))
        self.assert_readings(house, "120", [
            [("n", "shown", 1), ("m", "shown", 20)], [("n", "shown", 12), ("m", "shown", 0)]])
        self.assert_readings(house, "100", [[("n", "shown", 10), ("m", "shown", 0)]])
        self.assert_readings(house, "7", [])
        house = house_with("{n}{m}", [("n", "count"), ("m", "count")])
        self.assert_readings(house, "1,2345", [[("n", "shown", 1234), ("m", "shown", 5)]])
        self.assert_readings(house, "1234", [[("n", "shown", 1), ("m", "shown", 234)],
                                             [("n", "shown", 12), ("m", "shown", 34)],
                                             [("n", "shown", 123), ("m", "shown", 4)]])

    def test_a_group_sign_that_is_a_text_too(self):
        house = house_with("{n},{m}", [("n", "count"), ("m", "count")])
        self.assert_readings(house, "1,234,567", [
            [("n", "shown", 1), ("m", "shown", 234567)], [("n", "shown", 1234), ("m", "shown", 567)]])

    def test_a_gap_shown_twice(self):
        house = house_with("{n} and {n}", [("n", "count")])
        self.assert_readings(house, "5 and 5", [[("n", "shown", 5)]])
        self.assert_readings(house, "5 and 6", [])
        self.assert_readings(house, "5 and 55", [])

    def test_things(self):
        words = [("cat", "a", "m"), ("dog", "ab", "f"), ("ant", "a", "m"), ("cow", "b", "m")]
        house = house_with("{t}", [("t", "thing")], words, ["cat", "dog", "ant", "cow"])
        self.assert_readings(house, "a", [[("t", "shown", "cat")], [("t", "shown", "ant")]])
        self.assert_readings(house, "ab", [[("t", "shown", "dog")]])
        for text in ("", "A", "abc", "cat", "ba"):
            self.assert_readings(house, text, [])
        house = house_with("{t}{u}", [("t", "thing"), ("u", "thing")], words, ["cat", "dog", "ant", "cow"])
        self.assert_readings(house, "abb", [[("t", "shown", "dog"), ("u", "shown", "cow")]])
        self.assert_readings(house, "ab", [[("t", "shown", "cat"), ("u", "shown", "cow")],
                                           [("t", "shown", "ant"), ("u", "shown", "cow")]])
        house = house_with("{t}b{u}", [("t", "thing"), ("u", "thing")], words, ["cat", "dog", "ant", "cow"])
        self.assert_readings(house, "abbb", [[("t", "shown", "dog"), ("u", "shown", "cow")]])

    def test_lists(self):
        words = [("cat", "a", "m"), ("dog", "ab", "f"), ("ant", "x", "m")]
        things = ["cat", "dog", "ant"]
        house = house_with("{l}", [("l", "list")], words, things)
        self.assert_readings(house, "nothing", [[("l", "shown", [])]])
        self.assert_readings(house, "a", [[("l", "shown", ["cat"])]])
        self.assert_readings(house, "a and ab", [[("l", "shown", ["cat", "dog"])]])
        self.assert_readings(house, "a, x, x and ab", [[("l", "shown", ["cat", "ant", "ant", "dog"])]])
        self.assert_readings(house, ", ".join(["x"] * 7) + " and a", [[("l", "shown", ["ant"] * 7 + ["cat"])]])
        for text in ("", "a, ab", "a and ab and x", "a and b", ", ".join(["x"] * 8) + " and a", "a and ", "nothin"):
            self.assert_readings(house, text, [])

    def test_lists_with_letters_behind(self):
        words = [("cat", "a", "m"), ("dog", "ab", "f"), ("ant", "b", "m")]
        things = ["cat", "dog", "ant"]
        house = house_with("{l}b{t}", [("l", "list"), ("t", "thing")], words, things, joiners=DASHES)
        self.assert_readings(house, "a-abb", [[("l", "shown", ["cat", "cat"]), ("t", "shown", "ant")]])
        self.assert_readings(house, "a-abbb", [[("l", "shown", ["cat", "dog"]), ("t", "shown", "ant")]])
        self.assert_readings(house, "bab", [[("l", "shown", []), ("t", "shown", "dog")]])
        self.assert_readings(house, "bb", [[("l", "shown", []), ("t", "shown", "ant")]])

    def test_lists_laid_alike(self):
        words = [("cat", "a", "m"), ("dog", "x", "f"), ("ant", "none", "m")]
        house = house_with("{l}", [("l", "list")], words, ["cat", "dog", "ant"], joiners=("none", ", x & ", ", ", " & "))
        self.assert_readings(house, "none", [[("l", "shown", [])], [("l", "shown", ["ant"])]])
        self.assert_readings(house, "a, x & a", [[("l", "shown", ["cat", "cat"])], [("l", "shown", ["cat", "dog", "cat"])]])

    def test_days(self):
        house = house_with("{d}", [("d", "day")])
        self.assert_readings(house, "29.2.0", [[("d", "shown", 59)]])
        self.assert_readings(house, "29.2.1", [])
        self.assert_readings(house, "1.1.01", [])
        house = house_with("{d}{n}", [("d", "day"), ("n", "count")], figures=(3, 3, "", "-", "0123456789"))
        self.assert_readings(house, "1.1.00", [[("d", "shown", 0), ("n", "shown", 0)]])
        self.assert_readings(house, "1.1.123", [[("d", "shown", 366), ("n", "shown", 23)],
                                                [("d", "shown", say_day(12)), ("n", "shown", 3)]])

    def test_days_with_names(self):
        names = ["a", "ab", "b", "c", "d", "e", "f", "g", "h", "i", "j", "k"]
        house = house_with("{d}b", [("d", "day")], dayform=("dym", " ", names))
        self.assert_readings(house, "1 0 ab", [[("d", "shown", 0)]])
        self.assert_readings(house, "1 0 abb", [[("d", "shown", 31)]])
        self.assert_readings(house, "1 0 b", [])


def say_day(year):
    return 365 * year + sum([1 for y in range(year) if y % 4 == 0])


class TestHidden(ReadingTest):
    def test_gaps_that_nothing_asks(self):
        gaps = [("n", "count"), ("x", "number"), ("t", "thing"), ("d", "day")]
        self.assert_readings(house_with("hi", gaps), "hi", [[
            ("n", "hidden", [], 0), ("x", "hidden", [], 0), ("t", "hidden", [], "cat"), ("d", "hidden", [], 0)]])
        gaps = [("r", "rank"), ("l", "list")]
        self.assert_readings(house_with("hi", gaps), "hi", [[("r", "hidden", [], "low"), ("l", "hidden", [], [])]])

    def test_each_sort_of_choice(self):
        gaps = [("n", "count"), ("t", "thing"), ("r", "rank"), ("l", "list")]
        text = "{#n one[1] few[2] else[3]}{~t f[f] m[m]}{^r high[h] else[l]}{#l =8[8] else[0]}"
        house = house_with(text, gaps, rules=SLAVIC)
        many = ("de", "many", ["one", "few", "else"])
        self.assert_readings(house, "2fh8", [[
            ("n", "hidden", [many + ("few",)], 2), ("t", "hidden", [("de", "kind", ["f", "m"], "f")], "dog"),
            ("r", "hidden", [("de", "rank", ["high", "else"], "high")], "high"),
            ("l", "hidden", [("de", "many", ["=8", "else"], "=8")], ["cat"] * 8)]])
        self.assert_readings(house, "3ml0", [[
            ("n", "hidden", [many + ("else",)], 0), ("t", "hidden", [("de", "kind", ["f", "m"], "m")], "cat"),
            ("r", "hidden", [("de", "rank", ["high", "else"], "else")], "low"),
            ("l", "hidden", [("de", "many", ["=8", "else"], "else")], [])]])

    def test_tests_in_the_order_gone_through(self):
        house = house_with("{#n few[a{#n =2[] else[]}] else[a]}{#n =3[b] else[c]}", [("n", "count")], rules=SLAVIC)
        few = ("de", "many", ["few", "else"])
        two = ("de", "many", ["=2", "else"])
        three = ("de", "many", ["=3", "else"])
        self.assert_readings(house, "ab", [
            [("n", "hidden", [few + ("few",), two + ("else",), three + ("=3",)], 3)]])
        self.assert_readings(house, "ac", [
            [("n", "hidden", [few + ("few",), two + ("=2",), three + ("else",)], 2)],
            [("n", "hidden", [few + ("few",), two + ("else",), three + ("else",)], 4)],
            [("n", "hidden", [few + ("else",), three + ("else",)], 0)]])

    def test_ways_that_no_values_take(self):
        house = house_with("{#n =1[a] else[b]}{#n =1[a] else[b]}", [("n", "count")])
        names = ["=1", "else"]
        self.assert_readings(house, "aa", [[("n", "hidden", [("de", "many", names, "=1")] * 2, 1)]])
        self.assert_readings(house, "bb", [[("n", "hidden", [("de", "many", names, "else")] * 2, 0)]])
        self.assert_readings(house, "ab", [])
        house = house_with("{#l =9[a] =8[b] else[c]}", [("l", "list")])
        self.assert_readings(house, "a", [])
        house = house_with("{~t x[a] else[b]}", [("t", "thing")])
        self.assert_readings(house, "a", [])

    def test_a_shown_value_fits_what_is_asked_of_it(self):
        house = house_with("{#n few[few] else[many]} {n}", [("n", "count")], rules=SLAVIC)
        self.assert_readings(house, "few 22", [[("n", "shown", 22)]])
        self.assert_readings(house, "few 5", [])
        self.assert_readings(house, "many 5", [[("n", "shown", 5)]])
        house = house_with("{n} {#n few[few] else[many]}", [("n", "count")], rules=SLAVIC)
        self.assert_readings(house, "22 few", [[("n", "shown", 22)]])
        self.assert_readings(house, "5 few", [])
        house = house_with("{#l =0[] one[{l}] else[{l}!]}", [("l", "list")])
        self.assert_readings(house, "", [[("l", "hidden", [("de", "many", ["=0", "one", "else"], "=0")], [])]])
        self.assert_readings(house, "cat", [[("l", "shown", ["cat"])]])
        self.assert_readings(house, "cat!", [])
        self.assert_readings(house, "cat and dog!", [[("l", "shown", ["cat", "dog"])]])

    def test_a_gap_shown_on_one_way_and_hidden_on_another(self):
        house = house_with("{#n =3[three] else[{n}]}", [("n", "count")])
        self.assert_readings(house, "three", [[("n", "hidden", [("de", "many", ["=3", "else"], "=3")], 3)]])
        self.assert_readings(house, "3", [])
        self.assert_readings(house, "4", [[("n", "shown", 4)]])

    def test_counts_of_many_figures(self):
        far = 10 ** 58
        house = house_with("{#n far[a] else[b]}{#n =" + str(far) + "[c] else[d]}", [("n", "count")],
                           rules=f"far: self in {far}..{far + 3}; other")
        self.assertEqual(readings(house, "de", "k", "ad")[0][0][3], far + 1)
        self.assertEqual(readings(house, "de", "k", "ac")[0][0][3], far)
        self.assertEqual(readings(house, "de", "k", "bc"), [])

    def test_lists_of_a_reading_are_its_own(self):
        house = house_with("{#n one[] few[] else[]}{#l =0[] else[{l}]}", [("n", "count"), ("l", "list"), ("m", "list")],
                           rules=SLAVIC)
        before = copy.deepcopy(told_of(house)[5:])
        told = readings(house, "de", "k", "cat and dog")
        kept = copy.deepcopy(told)
        self.assertEqual(len(told), 3)
        for place in range(3):
            told[place][0][2][0][2].append("x")
            told[place][0][2].clear()
            told[place][1][2].clear()
            told[place][2][3].append("x")
            told[place].clear()
            self.assertEqual(told[place + 1:], kept[place + 1:])
        self.assertEqual(readings(house, "de", "k", "cat and dog"), kept)
        self.assertEqual(told_of(house)[5:], before)


    def test_lists_that_were_shown_ahead_of_a_choice_are_each_readings_own(self):
        house = house_with("{l}{#n one[] few[] else[]}", [("n", "count"), ("l", "list")], rules=SLAVIC)
        told = readings(house, "de", "k", "cat and dog")
        self.assertEqual(len(told), 3)
        told[0][1][2].clear()
        told[1][1][2].append("x")
        self.assertEqual(told[2][1], ("l", "shown", ["cat", "dog"]))
        self.assertEqual(told[1][1], ("l", "shown", ["cat", "dog", "x"]))


class TestCalls(ReadingTest):
    def house(self):
        house = a_house([
            a_tongue("de", ["en"], figures=(3, 3, ".", "~", "0123456789")),
            a_tongue("en", ["de"], SLAVIC),
        ])
        for tongue in ("de", "en"):
            house.word(tongue, "cat", "cat", "m" if tongue == "de" else "f")
            house.word(tongue, "dog", "dog", "f")
        house.declare("k", [("a", "count"), ("b", "count")])
        house.declare("l", [("x", "count"), ("y", "count")])
        return house

    def test_gaps_bound_in_the_end(self):
        house = self.house()
        put(house, "de", "k", "<{@l x=b y=a}>")
        put(house, "de", "l", "{x}|{y}")
        self.assert_readings(house, "<1|2>", [[("a", "shown", 2), ("b", "shown", 1)]])

    def test_two_gaps_that_a_call_binds_to_one(self):
        house = self.house()
        put(house, "de", "k", "<{@l x=a y=a}>")
        put(house, "de", "l", "{x}|{y}")
        self.assert_readings(house, "<1|1>", [[("a", "shown", 1), ("b", "hidden", [], 0)]])
        self.assert_readings(house, "<1|2>", [])

    def test_one_value_in_the_figures_of_two_owners(self):
        house = self.house()
        put(house, "de", "k", "{a}|{@l x=a y=b}")
        put(house, "en", "l", "{x}")
        self.assert_readings(house, "1.234|1,234", [[("a", "shown", 1234), ("b", "hidden", [], 0)]])
        self.assert_readings(house, "1.234|1.234", [])
        self.assert_readings(house, "1,234|1,234", [])

    def test_tests_each_by_its_own_owner(self):
        house = self.house()
        put(house, "de", "k", "{#a one[1] else[2]}{@l x=a y=b}{#a =4[!] else[]}")
        put(house, "en", "l", "{#x few[f] else[g]}{#y one[] else[x]}")
        mine = ("de", "many", ["one", "else"])
        theirs = ("en", "many", ["few", "else"])
        last = ("de", "many", ["=4", "else"])
        other = ("en", "many", ["one", "else"])
        self.assert_readings(house, "2f", [[
            ("a", "hidden", [mine + ("else",), theirs + ("few",), last + ("else",)], 2),
            ("b", "hidden", [other + ("one",)], 1)]])
        self.assert_readings(house, "2fx!", [[
            ("a", "hidden", [mine + ("else",), theirs + ("few",), last + ("=4",)], 4),
            ("b", "hidden", [other + ("else",)], 0)]])
        self.assert_readings(house, "1f", [])

    def test_kinds_by_each_owner(self):
        house = self.house()
        house.declare("m", [("t", "thing")])
        house.declare("n", [("u", "thing")])
        put(house, "de", "m", "{~t m[m] f[f]}{@n u=t}")
        put(house, "en", "n", "{~u m[m] f[f]}")
        self.assert_readings(house, "mf", [[("t", "hidden", [("de", "kind", ["m", "f"], "m"),
                                                             ("en", "kind", ["m", "f"], "f")], "cat")]], "m")
        self.assert_readings(house, "ff", [[("t", "hidden", [("de", "kind", ["m", "f"], "f"),
                                                             ("en", "kind", ["m", "f"], "f")], "dog")]], "m")
        self.assert_readings(house, "mm", [], "m")

    def test_a_message_marked_whole(self):
        house = self.house()
        house.declare("w", [("n", "count")], whole=True)
        put(house, "de", "w", "de {@l x=n y=n}")
        put(house, "en", "w", "en {@l x=n y=n}")
        put(house, "en", "l", "{x}")
        self.assert_readings(house, "en 1,000", [[("n", "shown", 1000)]], "w")
        self.assert_readings(house, "de 1.000", [], "w")


class TestRefused(ReadingTest):
    def test_refusals_in_their_order(self):
        house = house_with("{#n one[]}", [("n", "count")])
        house.declare("bare", [])
        house.declare("calls", [])
        put(house, "de", "calls", "{@bare}")
        for tongue, key, error_class in (("xx", "k", NoTongue), ("xx", "nokey", NoTongue), ("de", "nokey", NoMessage),
                                         ("de", "bare", NoMessage), ("de", "k", Flawed), ("de", "calls", Flawed)):
            with self.subTest(tongue=tongue, key=key), self.assertRaises(SayError) as caught:
                readings(house, tongue, key, "x")
            self.assertEqual(type(caught.exception), error_class)

    def test_each_flaw(self):
        house = house_with("{t}", [("t", "thing")], words=[("cat", "cat", "m")])
        with self.assertRaises(Flawed):
            readings(house, "de", "k", "cat")
        house = house_with("{@k}", [])
        with self.assertRaises(Flawed):
            readings(house, "de", "k", "")

    def test_flawed_ahead_of_too_many(self):
        house = house_with("{n}{m}{#n one[]}", [("n", "count"), ("m", "count")], figures=(3, 3, "", "-", "0123456789"))
        with self.assertRaises(Flawed):
            readings(house, "de", "k", "1" * 40)


class TestTooMany(ReadingTest):
    FIGURES = (3, 3, "", "-", "0123456789")
    TWO = [("n", "count"), ("m", "count")]

    def test_behind_a_part(self):
        house = house_with("{n}{m}", self.TWO, figures=self.FIGURES)
        self.assertEqual(len(readings(house, "de", "k", "1" * 25)), 24)
        self.assert_too_many(house, "1" * 26)

    def test_behind_a_part_though_nothing_is_read_in_the_end(self):
        house = house_with("{n}{m}", self.TWO, figures=self.FIGURES)
        self.assertEqual(readings(house, "de", "k", "1" * 25 + "x"), [])
        self.assert_too_many(house, "1" * 26 + "x")
        house = house_with("{n}{m}{#n else[x]}", self.TWO, figures=self.FIGURES)
        self.assertEqual(len(readings(house, "de", "k", "1" * 25 + "x")), 24)
        self.assert_too_many(house, "1" * 26 + "x")

    def test_a_text_part_next_behind_the_gap(self):
        house = house_with("{n}{m}!", self.TWO, figures=self.FIGURES)
        self.assertEqual(len(readings(house, "de", "k", "1" * 26 + "!")), 25)
        self.assertEqual(len(readings(house, "de", "k", "1" * 60 + "!")), 59)
        house = house_with("{n}{m}1", self.TWO, figures=self.FIGURES)
        self.assertEqual(len(readings(house, "de", "k", "1" * 26)), 24)
        self.assert_too_many(house, "1" * 27)

    def test_a_text_part_in_another_pattern_behind_the_gap(self):
        house = house_with("{#n else[{n}{m}]}!", self.TWO, figures=self.FIGURES)
        self.assertEqual(len(readings(house, "de", "k", "1" * 25 + "!")), 24)
        self.assert_too_many(house, "1" * 26 + "!")
        house = house_with("{n}{m}!", self.TWO, figures=self.FIGURES)
        house.declare("l", self.TWO)
        put(house, "de", "l", "{n}{m}")
        put(house, "de", "k", "{@l n=n m=m}!")
        self.assertEqual(len(readings(house, "de", "k", "1" * 25 + "!")), 24)
        self.assert_too_many(house, "1" * 26 + "!")

    def things_house(self, text, gaps, rows, **more):
        """A house in which so many things have each of these texts."""
        things = []
        words = []
        for row, how_many in rows.items():
            for k in range(how_many):
                things.append(row + "x" + chr(97 + k))
                words.append((things[-1], row, "m"))
        return house_with(text, gaps, words, things, **more)

    def test_just_three_hundred(self):
        gaps = [("t", "thing"), ("u", "thing"), ("v", "thing")]
        for text, said in (("{t}{u}{v}", "abc"), ("{t}{u}{v}!", "abc!"), ("({t}){u}:{v}!", "(a)b:c!")):
            house = self.things_house(text, gaps, {"a": 5, "b": 6, "c": 10})
            self.assertEqual(len(readings(house, "de", "k", said)), 300)
            house = self.things_house(text, gaps, {"a": 5, "b": 6, "c": 11})
            self.assert_too_many(house, said)

    def test_just_three_hundred_and_one(self):
        gaps = [("t", "thing"), ("l", "list")]
        house = self.things_house("{t}{l}", gaps, {"a": 6, "b": 7}, joiners=DASHES)
        self.assert_too_many(house, "ba-a")
        house = self.things_house("{t}{l}!", gaps, {"a": 6, "b": 7}, joiners=DASHES)
        self.assertEqual(len(readings(house, "de", "k", "ba-a!")), 252)
        house = self.things_house("{t}{l}", gaps, {"a": 6, "b": 6}, joiners=DASHES)
        self.assertEqual(len(readings(house, "de", "k", "ba-a")), 216)

    def test_behind_a_choice_all_its_arms_together(self):
        gaps = [("t", "thing"), ("u", "thing"), ("v", "thing"), ("r", "rank")]
        rows = {"a": 5, "b": 6, "c": 10}
        house = self.things_house("{^r low[{t}{u}{v}] high[abd]}", gaps, rows)
        self.assertEqual(len(readings(house, "de", "k", "abc")), 300)
        house = self.things_house("{^r low[{t}{u}{v}] high[abc]}", gaps, rows)
        self.assert_too_many(house, "abc")
        house = self.things_house("{^r low[{t}{u}{v}x] high[abc]}", gaps, rows)
        self.assertEqual(len(readings(house, "de", "k", "abc")), 1)
        self.assert_too_many(house, "abcx")

    def test_behind_a_part_of_an_arm_those_that_took_it(self):
        gaps = [("t", "thing"), ("u", "thing"), ("v", "thing"), ("r", "rank")]
        rows = {"a": 5, "b": 6, "c": 10}
        house = self.things_house("{t}{u}{v}{^r low[x] high[y]}", gaps, rows)
        self.assertEqual(len(readings(house, "de", "k", "abcx")), 300)
        house = self.things_house("{t}{u}{v}{^r low[x] high[x]}", gaps, rows)
        self.assert_too_many(house, "abcx")
        house = self.things_house("{t}{u}{v}{^r low[] high[]}", gaps, rows)
        self.assert_too_many(house, "abc")

    def test_lists_of_very_many_things(self):
        gaps = [("l", "list")]
        said = "-".join(["a"] * 8)
        house = self.things_house("{l}!", gaps, {"a": 26}, joiners=DASHES)
        self.assert_too_many(house, said + "!")
        self.assertEqual(readings(house, "de", "k", said + "?"), [])
        self.assertEqual(readings(house, "de", "k", said), [])
        self.assertEqual(len(readings(house, "de", "k", "a!")), 26)
        house = self.things_house("{l}", gaps, {"a": 17}, joiners=DASHES)
        self.assert_too_many(house, "a-a")
        house = self.things_house("{l}!", gaps, {"a": 17}, joiners=DASHES)
        self.assertEqual(len(readings(house, "de", "k", "a-a!")), 289)
        house = self.things_house("{l}!", gaps, {"a": 18}, joiners=DASHES)
        self.assert_too_many(house, "a-a!")

    def test_partial_readings_that_no_values_take_are_not_counted(self):
        house = house_with("{n}{#n one[] else[]}{m}", self.TWO, rules="one: self from 11; other", figures=self.FIGURES)
        self.assertEqual(len(readings(house, "de", "k", "1" * 25)), 24)
        house = house_with("{#n one[] else[x]}{n}{m}", self.TWO, rules="one: self in 1..1; other", figures=self.FIGURES)
        self.assertEqual(len(readings(house, "de", "k", "1" * 40)), 1)
        self.assert_too_many(house, "x" + "1" * 40)


class TestRandom(ReadingTest):
    def test_what_was_said_is_read(self):
        rng = random.Random(101)
        read = 0
        for k in range(200):
            house = some_house(rng, whole=rng.random() < 0.7)
            before = copy.deepcopy(told_of(house)[5:])
            for tongue in house.tongues():
                for key in house.messages():
                    if flaws(house, tongue, key) == []:
                        for j in range(3):
                            values = some_values(rng, house, key)
                            read = read + self.check_said(house, tongue, key, values)
            self.assertEqual(told_of(house)[5:], before)
        self.assertGreater(read, 2000)

    def check_said(self, house, tongue, key, values):
        text = say(house, tongue, key, values)
        try:
            told = readings(house, tongue, key, text)
        except TooMany:
            return 0
        self.assertEqual(len([reading for reading in told if matches(house, reading, values)]), 1)
        self.assertEqual(len(set(map(repr, told))), len(told))
        for reading in told:
            self.assertEqual([row[0] for row in reading], [gap for gap, kind in house.gaps(key)])
            self.assertTrue(matches(house, reading, least_ones(reading)))
            self.assertEqual(say(house, tongue, key, least_ones(reading)), text)
        return 1

    def test_values_say_a_text_just_where_they_match_a_reading(self):
        rng = random.Random(102)
        seen = 0
        while seen < 60:
            house = some_house(rng, whole=True)
            for tongue in house.tongues():
                for key in house.messages():
                    if flaws(house, tongue, key) == [] and len(house.gaps(key)) in (1, 2, 3) and seen < 60:
                        seen = seen + 1
                        self.check_all(rng, house, tongue, key)

    def check_all(self, rng, house, tongue, key):
        domains = {"count": [0, 1, 2, 3, 4, 7, 11, 12, 22], "number": [0, -1, 1, 12], "day": [0, 1, 2, 31, 366],
                   "thing": house.things(), "rank": house.ranks(),
                   "list": [[]] + [list(row) for length in (1, 2) for row in itertools.product(house.things(), repeat=length)]}
        rows = [domains[kind] for gap, kind in house.gaps(key)]
        names = [gap for gap, kind in house.gaps(key)]
        said = [(dict(zip(names, row)), say(house, tongue, key, dict(zip(names, row)))) for row in itertools.product(*rows)]
        texts = sorted(set([text for values, text in said]))
        for text in rng.sample(texts, min(6, len(texts))) + ["zzz"]:
            told = readings(house, tongue, key, text)
            for values, other in said:
                found = [reading for reading in told if matches(house, reading, values)]
                self.assertEqual(len(found), 1 if other == text else 0, (values, text))

    def test_changed_texts(self):
        rng = random.Random(103)
        for k in range(60):
            house = some_house(rng, whole=True)
            tongue = rng.choice(house.tongues())
            key = rng.choice(house.messages())
            if flaws(house, tongue, key) == []:
                text = say(house, tongue, key, some_values(rng, house, key))
                for j in range(5):
                    place = rng.randrange(len(text) + 1)
                    other = text[:place] + rng.choice(["", "1", "c", ",", "-"]) + text[place + rng.randrange(2):]
                    for reading in readings(house, tongue, key, other):
                        self.assertEqual(say(house, tongue, key, least_ones(reading)), other)


if __name__ == "__main__":
    unittest.main()
