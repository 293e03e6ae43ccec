"""Rules of how many, and their text, of saywell.rules: point [11]."""

import copy
import random
import unittest

from saywell import errors
from saywell.errors import NoRules
from saywell.rules import read_rules, set_of, shown_rules, way_of
from saywell.sets import holds, least
from helper import DIVISORS, depth, ends_of, is_condition, is_member

EXAMPLE = "one: self in 1..1; few: (rest 10 in 2..4 and not rest 100 in 12..14); many"
SIGNS = [chr(number) for number in range(32, 127)]


def leaves(condition):
    if condition[0] in ("and", "or"):
        return sum([leaves(each) for each in condition[1]])
    return leaves(condition[1]) if condition[0] == "not" else 1


def is_rules(thing):
    """Whether a thing is built just as [11] tells."""
    if not isinstance(thing, list) or not 1 <= len(thing) <= 8:
        return False
    if any([not isinstance(pair, tuple) or len(pair) != 2 for pair in thing]):
        return False
    words = [word for word, condition in thing]
    if len(set(words)) != len(words) or "else" in words:
        return False
    if any([not (1 <= len(word) <= 8 and word.isascii() and word.isalpha() and word.islower()) for word in words]):
        return False
    conditions = [condition for word, condition in thing]
    if conditions[-1] is not None or any([not is_condition(each) or not joins_two(each) for each in conditions[:-1]]):
        return False
    counts = [leaves(each) for each in conditions[:-1]]
    return max([0] + counts) <= 12 and sum(counts) <= 24 and max([1] + [depth(each) for each in conditions[:-1]]) <= 5


def joins_two(condition):
    if condition[0] in ("and", "or"):
        return len(condition[1]) >= 2 and all([joins_two(each) for each in condition[1]])
    return joins_two(condition[1]) if condition[0] == "not" else True


def some_text(rng, deep):
    chance = rng.random()
    if deep == 4 or chance < 0.4:
        if rng.random() < 0.5:
            m = rng.choice(DIVISORS)
            a = rng.randrange(m)
            return f"rest {m} in {a}..{rng.randrange(a, m)}"
        a = rng.randrange(rng.choice([10, 10 ** 58]))
        return rng.choice([f"self from {a}", f"self in {a}..{a + rng.randrange(20)}"])
    if chance < 0.6:
        return "not " + some_text(rng, deep + 1)
    return "(" + rng.choice([" and ", " or "]).join([some_text(rng, deep + 1) for k in range(rng.choice([2, 2, 3]))]) + ")"


def some_rules(rng):
    words = ["zero", "one", "two", "few", "many", "other", "x", "abcdefgh"]
    rng.shuffle(words)
    words = words[:rng.randrange(1, 9)]
    return "; ".join([word + ": " + some_text(rng, 0) for word in words[:-1]] + [words[-1]])


class RulesTest(unittest.TestCase):
    def assert_read(self, text, rules):
        with self.subTest(text=text):
            self.assertEqual(read_rules(text), rules)
            self.assertEqual(shown_rules(rules), text)
            self.assertTrue(is_rules(read_rules(text)))

    def assert_good(self, text):
        with self.subTest(text=text):
            self.assertTrue(is_rules(read_rules(text)))
            self.assertEqual(shown_rules(read_rules(text)), text)

    def assert_refused(self, thing):
        with self.subTest(thing=thing):
            with self.assertRaises(errors.SayError) as caught:
                read_rules(thing)
            self.assertEqual(type(caught.exception), NoRules)


class TestRead(RulesTest):
    def test_the_example(self):
        self.assert_read(EXAMPLE, [
            ("one", ("self", 1, 1)),
            ("few", ("and", [("rest", 10, 2, 4), ("not", ("rest", 100, 12, 14))])),
            ("many", None),
        ])

    def test_one_word(self):
        self.assert_read("other", [("other", None)])
        self.assert_read("a", [("a", None)])
        self.assert_read("abcdefgh", [("abcdefgh", None)])

    def test_each_form(self):
        self.assert_read("a: rest 2 in 0..1; b", [("a", ("rest", 2, 0, 1)), ("b", None)])
        self.assert_read("a: self in 0..5; b", [("a", ("self", 0, 5)), ("b", None)])
        self.assert_read("a: self from 7; b", [("a", ("self", 7, None)), ("b", None)])
        self.assert_read("a: not self from 7; b", [("a", ("not", ("self", 7, None))), ("b", None)])
        self.assert_read("a: (self from 7 and self in 0..0); b",
                         [("a", ("and", [("self", 7, None), ("self", 0, 0)])), ("b", None)])
        self.assert_read("a: (self from 7 or rest 3 in 1..2 or self in 0..0); b",
                         [("a", ("or", [("self", 7, None), ("rest", 3, 1, 2), ("self", 0, 0)])), ("b", None)])
        self.assert_read("a: not not (self from 1 or not self from 2); b",
                         [("a", ("not", ("not", ("or", [("self", 1, None), ("not", ("self", 2, None))])))), ("b", None)])

    def test_words_that_stand_in_conditions_too(self):
        self.assert_good("not: not self from 1; self: rest 2 in 0..0; rest: self in 1..2; and: self from 2; or: "
                         "self from 3; in: self from 4; from")

    def test_random_rules_there_and_back(self):
        rng = random.Random(8)
        seen = 0
        while seen < 400:
            text = some_rules(rng)
            count = text.count("rest ") + text.count("self ")
            if count <= 12:
                seen = seen + 1
                self.assert_good(text)


class TestRefused(RulesTest):
    def test_things_that_are_no_texts(self):
        for thing in (None, 0, 7, True, False, 1.5, [], ["a"], [("a", None)], (), {}, {"a": 1}, b"a", object(), str):
            self.assert_refused(thing)

    def test_words(self):
        for text in ("", " ", "One", "else", "abcdefghi", "a1", "a ", " a", "a;", "a; ", "; a", ": a", "a:", "a: ",
                     "a: b", "a b", "a: self from 1", "a: self from 1;", "a: self from 1; ", "a: self from 1;b",
                     "a: self from 1 ; b", "a:self from 1; b", "a:  self from 1; b", "a : self from 1; b",
                     "a: self from 1;  b", "a: self from 1; else", "else: self from 1; a", "a; b", "a: None; b",
                     "a: self from 1; b\n", "a: self from 1, b", "A: self from 1; b"):
            self.assert_refused(text)

    def test_words_alike(self):
        self.assert_refused("a: self from 1; a")
        self.assert_refused("a: self from 1; b: self from 2; a: self from 3; c")
        self.assert_good("a: self from 1; b: self from 1; c")

    def test_conditions(self):
        for condition in ("rest", "rest 10", "rest 10 in", "rest 10 in 1", "rest 10 in 1..", "rest 10 in ..2",
                          "rest 10 in 1.2", "rest 10 in 1...2", "rest 10 in 1 .. 2", "rest  10 in 1..2",
                          "rest 10 from 1", "self", "self in", "self in 1", "self in 1..", "self in 2..1", "self from",
                          "self from 1..2", "self from -1", "self in -1..1", "self from 01", "self in 00..1",
                          "self in 1..02", "self  from 1", "not", "not ", "not  self from 1", "notself from 1",
                          "not(self from 1 or self from 2)", "()", "(self from 1)", "((self from 1))",
                          "(self from 1 and )", "(self from 1 and)", "( self from 1 and self from 2)",
                          "(self from 1 and self from 2 )", "(self from 1 and self from 2", "self from 1 and self from 2",
                          "(self from 1 and self from 2 or self from 3)", "(self from 1 or self from 2 and self from 3)",
                          "(self from 1 AND self from 2)", "(self from 1  and self from 2)", "self from 1)",
                          "(self from 1, self from 2)", "even", "self is 1", "self in 1..1 or self in 2..2"):
            self.assert_refused("a: " + condition + "; b")
            self.assert_refused("a: self from 5; c: " + condition + "; b")


class TestBounds(RulesTest):
    def test_eight_rules(self):
        for most in range(1, 12):
            words = list("abcdefghijkl")[:most]
            text = "; ".join([word + ": self from 1" for word in words[:-1]] + [words[-1]])
            if most <= 8:
                self.assert_good(text)
            else:
                self.assert_refused(text)

    def test_twelve_rests_and_selves_in_one(self):
        for most in (2, 11, 12, 13, 14):
            inner = " or ".join([("self from 1", "rest 2 in 0..0")[k % 2] for k in range(most)])
            text = "a: (" + inner + "); b"
            if most <= 12:
                self.assert_good(text)
            else:
                self.assert_refused(text)

    def test_twelve_in_brackets_within(self):
        six = "(" + " and ".join(["self from 1"] * 6) + ")"
        self.assert_good("a: (" + six + " or not " + six + "); b")
        self.assert_refused("a: (" + six + " or " + six + " or not self from 2); b")

    def test_twelve_within_a_not(self):
        for most in (12, 13):
            text = "a: not (" + " and ".join(["self from 1"] * most) + "); b"
            if most <= 12:
                self.assert_good(text)
            else:
                self.assert_refused(text)

    def test_twenty_four_in_all(self):
        twelve = "(" + " or ".join(["self from 1"] * 12) + ")"
        six = "(" + " or ".join(["rest 3 in 0..1"] * 6) + ")"
        self.assert_good("a: " + twelve + "; b: " + twelve + "; c")
        self.assert_refused("a: " + twelve + "; b: " + twelve + "; d: self from 1; c")
        self.assert_good("a: " + twelve + "; b: " + six + "; d: " + six + "; c")
        self.assert_refused("a: " + twelve + "; b: " + six + "; d: " + six + "; e: not self from 1; c")

    def test_four_nots_and_brackets_in_one_another(self):
        text = "self from 1"
        for deep in range(1, 7):
            text = "not " + text
            if deep <= 4:
                self.assert_good("a: " + text + "; b")
            else:
                self.assert_refused("a: " + text + "; b")
        text = "self from 1"
        for deep in range(1, 7):
            text = "(" + text + " or self from 2)"
            if deep <= 4:
                self.assert_good("a: " + text + "; b")
            else:
                self.assert_refused("a: " + text + "; b")
        self.assert_good("a: not (not (self from 1 and self from 2) or self from 3); b")
        self.assert_refused("a: not (not (not self from 1 and self from 2) or self from 3); b")
        self.assert_good("a: (self from 1 or (self from 1 or (self from 1 or not self from 2))); b")
        self.assert_refused("a: (self from 1 or (self from 1 or (self from 1 or not not self from 2))); b")

    def test_four_deep_at_each_place_of_a_bracket(self):
        for place in range(4):
            for within, fits in (("not not not self from 1", True), ("not not not not self from 1", False)):
                row = ["self from 2"] * 4
                row[place] = within
                text = "a: (" + " or ".join(row) + "); b"
                if fits:
                    self.assert_good(text)
                else:
                    self.assert_refused(text)

    def test_very_deep_texts(self):
        for deep in (100, 900):
            self.assert_refused("a: " + "not " * deep + "self from 1; b")
            self.assert_refused("a: " + "(" * deep + "self from 1; b")

    def test_numbers_that_divide_300(self):
        for m in range(0, 620):
            text = f"a: rest {m} in 0..0; b"
            if m in DIVISORS:
                self.assert_good(text)
            else:
                self.assert_refused(text)
        self.assert_refused("a: rest 010 in 0..0; b")
        self.assert_refused("a: rest " + "9" * 59 + " in 0..0; b")

    def test_a_at_most_b_below_m(self):
        for m in (2, 3, 10, 300):
            for a in (0, 1, m - 2, m - 1, m, m + 1):
                for b in (0, 1, m - 2, m - 1, m, m + 1):
                    text = f"a: rest {m} in {a}..{b}; b"
                    if a <= b < m:
                        self.assert_good(text)
                    else:
                        self.assert_refused(text)

    def test_numbers_of_fifty_nine_figures(self):
        nines = "9" * 59
        self.assert_read("a: self in 0.." + nines + "; b", [("a", ("self", 0, 10 ** 59 - 1)), ("b", None)])
        self.assert_read("a: self from " + nines + "; b", [("a", ("self", 10 ** 59 - 1, None)), ("b", None)])
        self.assert_read(f"a: self in {nines}..{nines}; b", [("a", ("self", 10 ** 59 - 1, 10 ** 59 - 1)), ("b", None)])
        one = "1" + "0" * 59
        for text in ("a: self in 0..N; b", "a: self from N; b", "a: self in N..N; b"):
            self.assert_refused(text.replace("N", one))
            self.assert_refused(text.replace("N", "9" * 3900))

    def test_eight_letters(self):
        self.assert_good("abcdefgh: self from 1; hgfedcba")
        self.assert_refused("abcdefghi: self from 1; b")
        self.assert_refused("a: self from 1; abcdefghi")


class TestChangedTexts(RulesTest):
    """A sign put in, taken out or exchanged at any place."""

    TEXTS = [EXAMPLE, "a: not self in 0..12; b: (self from 3 or rest 300 in 7..299 or not rest 2 in 0..0); c"]

    def check(self, text):
        try:
            rules = read_rules(text)
        except errors.SayError as error:
            self.assertEqual(type(error), NoRules, text)
            return
        self.assertTrue(is_rules(rules), text)
        self.assertEqual(shown_rules(rules), text)

    def test_put_in_and_exchanged(self):
        for text in self.TEXTS:
            for place in range(len(text) + 1):
                for sign in SIGNS + ["\n", "\xe9"]:
                    self.check(text[:place] + sign + text[place:])
                    self.check(text[:place] + sign + text[place + 1:])

    def test_taken_out(self):
        for text in self.TEXTS:
            for place in range(len(text)):
                for length in (1, 2, 3, 4, 8):
                    self.check(text[:place] + text[place + length:])


class TestAsked(RulesTest):
    def test_way_of_the_example(self):
        rules = read_rules(EXAMPLE)
        ways = {0: "many", 1: "one", 2: "few", 4: "few", 5: "many", 11: "many", 12: "many", 14: "many", 15: "many",
                22: "few", 101: "many", 102: "few", 112: "many", 10 ** 60 - 1: "many", 10 ** 59 + 3: "few"}
        for n, word in ways.items():
            self.assertEqual(way_of(rules, n), word)

    def test_the_first_one_that_holds(self):
        rules = read_rules("a: self in 5..9; b: self in 0..7; c: self from 0; d")
        self.assertEqual([way_of(rules, n) for n in (0, 4, 5, 7, 9, 10, 10 ** 60 - 1)], list("bbaaacc"))
        self.assertIsNone(least(set_of(rules, "d")))

    def test_one_word_alone(self):
        rules = read_rules("other")
        for n in (0, 1, 10 ** 60 - 1):
            self.assertEqual(way_of(rules, n), "other")
            self.assertIs(holds(set_of(rules, "other"), n), True)
            self.assertIs(holds(set_of(rules, "one"), n), False)

    def test_a_word_that_no_rule_has(self):
        rules = read_rules(EXAMPLE)
        for word in ("two", "on", "ones", "x"):
            self.assertIsNone(least(set_of(rules, word)))
            self.assertTrue(is_condition(set_of(rules, word)))
            self.assertLessEqual(depth(set_of(rules, word)), 5)

    def test_sets_of_random_rules(self):
        rng = random.Random(9)
        seen = 0
        while seen < 120:
            text = some_rules(rng)
            if text.count("rest ") + text.count("self ") > 12:
                continue
            seen = seen + 1
            rules = read_rules(text)
            kept = copy.deepcopy(rules)
            conditions = [condition for word, condition in rules if condition is not None]
            deepest = max([depth(each) for each in conditions], default=0)
            numbers = [0, 1, 2, 11, 12, 99, 100, 299, 300, 10 ** 60 - 1, rng.randrange(10 ** 60)]
            for end in ends_of(("and", conditions)):
                numbers.extend([n for n in (end - 1, end, end + 1) if n >= 0])
            for word, condition in rules:
                told = set_of(rules, word)
                self.assertTrue(is_condition(told))
                self.assertLessEqual(depth(told), deepest + 5)
                for n in numbers:
                    first = [w for w, c in rules if c is None or is_member(c, n)][0]
                    self.assertEqual(way_of(rules, n), first)
                    self.assertIs(holds(told, n), word == first)
            self.assertEqual(rules, kept)

    def test_what_is_told_is_its_own(self):
        rules = read_rules(EXAMPLE)
        few = set_of(rules, "few")
        many = set_of(rules, "many")
        few[1][1][1].clear()
        few[1].clear()
        self.assertEqual(rules, read_rules(EXAMPLE))
        self.assertEqual([n for n in range(30) if holds(many, n)], [n for n in range(30) if way_of(rules, n) == "many"])
        rules[1][1][1].clear()
        rules.pop(0)
        self.assertIs(holds(many, 5), True)
        self.assertIs(holds(many, 22), False)
        self.assertEqual(shown_rules(read_rules(EXAMPLE)), EXAMPLE)


if __name__ == "__main__":
    unittest.main()
