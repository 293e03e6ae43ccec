"""Which arm is taken, of saywell.choices: point [12]."""

import copy
import itertools
import random
import unittest

from saywell.choices import set_for, taken
from saywell.rules import read_rules, way_of
from saywell.sets import below, both, holds, least, without
from helper import depth, ends_of, is_condition

EXAMPLE = "one: self in 1..1; few: (rest 10 in 2..4 and not rest 100 in 12..14); many"
FAR = 10 ** 58
RULES = [
    "other",
    EXAMPLE,
    f"zero: self in 0..0; far: self in {FAR}..{FAR + 40}; one: not (self from 2 or rest 2 in 0..0); other",
    "a: not not not not self in 3..700; b: self from 650; c: self from 0; d",
]


def plainly_taken(names, number, word):
    """The words of [12], one by one."""
    for name in names:
        if number is not None and name.startswith("=") and int(name[1:]) == number:
            return name
    for name in (word, "else"):
        if name in names:
            return name
    return None


class TestTaken(unittest.TestCase):
    def test_the_very_number(self):
        names = ["=0", "=2", "one", "few", "else"]
        self.assertEqual(taken(names, 0, "many"), "=0")
        self.assertEqual(taken(names, 2, "few"), "=2")
        self.assertEqual(taken(names, 20, "few"), "few")

    def test_the_word(self):
        self.assertEqual(taken(["=0", "one", "else"], 1, "one"), "one")
        self.assertEqual(taken(["one"], 5, "one"), "one")

    def test_else(self):
        self.assertEqual(taken(["=0", "one", "else"], 5, "many"), "else")
        self.assertEqual(taken(["else"], None, "many"), "else")

    def test_none(self):
        self.assertIsNone(taken(["=0", "one"], 5, "many"))
        self.assertIsNone(taken(["one"], None, "many"))

    def test_no_number_asked(self):
        self.assertEqual(taken(["=0", "one", "else"], None, "one"), "one")
        self.assertEqual(taken(["=0", "else"], None, "one"), "else")
        self.assertIsNone(taken(["=0"], None, "one"))

    def test_numbers_of_many_figures(self):
        names = ["=" + "9" * 59, "=" + "1" * 59, "many"]
        self.assertEqual(taken(names, 10 ** 59 - 1, "many"), "=" + "9" * 59)
        self.assertEqual(taken(names, 10 ** 59 - 2, "many"), "many")
        self.assertEqual(taken(names, 10 ** 60 - 1, "many"), "many")
        self.assertIsNone(taken(["=1"], 10 ** 59, "many"))

    def test_a_number_that_begins_another_one(self):
        self.assertEqual(taken(["=1", "=10", "=100"], 10, "x"), "=10")
        self.assertIsNone(taken(["=1", "=100"], 10, "x"))

    def test_a_word_that_begins_another_one(self):
        self.assertEqual(taken(["ones", "one", "o", "else"], 1, "one"), "one")
        self.assertEqual(taken(["ones", "o", "else"], 1, "one"), "else")
        self.assertIsNone(taken(["ones", "o"], 1, "one"))

    def test_the_order_means_nothing(self):
        names = ["=1", "=10", "one", "else"]
        for number, word in ((1, "one"), (10, "one"), (1, "many"), (5, "one"), (5, "many"), (None, "one"), (None, "x")):
            answers = [taken(list(row), number, word) for row in itertools.permutations(names)]
            self.assertEqual(set(answers), {plainly_taken(names, number, word)})

    def test_names_stay(self):
        names = ["else", "one", "=0"]
        taken(names, 0, "one")
        self.assertEqual(names, ["else", "one", "=0"])


class TestSetFor(unittest.TestCase):
    NAMES = [["one"], ["else"], ["=0"], ["=0", "one", "else"], ["one", "few", "many"], ["=1", "=5", "few"],
             ["x", "else"], ["x"], [f"={FAR}", f"={FAR + 41}", "far", "other"], ["d", "c", "a"], ["=700", "b", "else"],
             ["=" + "9" * 59, "many", "other"], ["=3", "=4", "=5", "=6", "=650", "=0", "else", "a"]]

    def numbers(self, rules, names):
        conditions = [condition for word, condition in rules if condition is not None]
        ends = ends_of(("and", conditions)) + [int(name[1:]) for name in names if name[0] == "="]
        near = [end + step for end in ends for step in (-1, 0, 1, 2)]
        return list(range(25)) + [n for n in near if n >= 0] + [99, 100, 112, 299, 300, 10 ** 59, 10 ** 60 - 1]

    def test_each_number_lies_in_the_set_of_the_arm_taken_alone(self):
        for text in RULES:
            rules = read_rules(text)
            for names in self.NAMES:
                kept = copy.deepcopy((names, rules))
                sets = {name: set_for(names, name, rules) for name in names + [None]}
                for n in self.numbers(rules, names):
                    found = [name for name in sets if holds(sets[name], n)]
                    self.assertEqual(found, [plainly_taken(names, n, way_of(rules, n))], (text, names, n))
                self.assertEqual((names, rules), kept)

    def test_what_is_told_is_a_condition(self):
        for text in RULES:
            rules = read_rules(text)
            deepest = max([depth(condition) for word, condition in rules if condition is not None], default=0)
            for names in self.NAMES:
                for name in names + [None]:
                    told = set_for(names, name, rules)
                    self.assertTrue(is_condition(told))
                    self.assertLessEqual(depth(told), deepest + 5)

    def test_what_is_told_may_be_handed_in_again(self):
        rules = read_rules(EXAMPLE)
        names = ["=2", "few", "else"]
        few = set_for(names, "few", rules)
        rest = set_for(names, "else", rules)
        self.assertEqual(least(few), 3)
        self.assertEqual(least(few, 5), 22)
        self.assertEqual(least(rest), 0)
        self.assertIsNone(least(both(few, rest)))
        self.assertIsNone(least(set_for(names, None, rules)))
        self.assertEqual([n for n in range(30) if holds(without(("self", 0, 29), both(few, few)), n)],
                         [n for n in range(30) if not holds(few, n)])
        self.assertEqual(below(few, 300) + below(rest, 300) + 1, 300)

    def test_the_order_means_nothing(self):
        rules = read_rules(EXAMPLE)
        for row in itertools.permutations(["=2", "few", "one"]):
            for name in ("=2", "few", "one", None):
                told = set_for(list(row), name, rules)
                self.assertEqual([n for n in range(150) if holds(told, n)],
                                 [n for n in range(150) if plainly_taken(row, n, way_of(rules, n)) == name])

    def test_a_word_that_no_rule_has(self):
        rules = read_rules(EXAMPLE)
        self.assertIsNone(least(set_for(["x", "=4"], "x", rules)))
        self.assertEqual(least(set_for(["x", "=0", "=1"], None, rules)), 2)

    def test_random_names(self):
        rng = random.Random(12)
        for k in range(80):
            rules = read_rules(rng.choice(RULES))
            words = [word for word, condition in rules] + ["x", "else"]
            numbers = ["=" + str(rng.choice([0, 1, 2, 3, 650, 700, FAR, 10 ** 59 - 1])) for j in range(3)]
            names = rng.sample(sorted(set(words + numbers)), rng.randrange(1, 4))
            sets = {name: set_for(names, name, rules) for name in names + [None]}
            for n in self.numbers(rules, names):
                for name in sets:
                    self.assertIs(holds(sets[name], n), plainly_taken(names, n, way_of(rules, n)) == name)

    def test_lists_within_are_the_askers_own(self):
        rules = read_rules(EXAMPLE)
        names = ["=2", "few", "else"]
        kept = copy.deepcopy(rules)
        again = [copy.deepcopy(set_for(names, name, rules)) for name in names + [None]]

        def emptied(condition):
            if condition[0] in ("and", "or"):
                for each in condition[1]:
                    emptied(each)
                condition[1].clear()
            elif condition[0] == "not":
                emptied(condition[1])

        for name in names + [None]:
            emptied(set_for(names, name, rules))
        self.assertEqual(rules, kept)
        self.assertEqual([set_for(names, name, rules) for name in names + [None]], again)
        told = set_for(names, "else", rules)
        members = [n for n in range(50) if holds(told, n)]
        rules[1][1][1].clear()
        rules.clear()
        names.clear()
        self.assertEqual([n for n in range(50) if holds(told, n)], members)


if __name__ == "__main__":
    unittest.main()
