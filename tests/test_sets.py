"""Conditions and their members of saywell.sets: points [9] and [10]."""

import copy
import random
import unittest

from saywell.sets import below, both, holds, least, without
from helper import (
    GREAT, DIVISORS, beside, depth, found_below, found_least, is_condition, is_member, some_condition, some_leaf,
)


class SetTest(unittest.TestCase):
    def check(self, condition, numbers):
        kept = copy.deepcopy(condition)
        for n in numbers:
            self.assertIs(holds(condition, n), is_member(condition, n))
            self.assertEqual(least(condition, n), found_least(condition, n), (condition, n))
            self.assertEqual(below(condition, n), found_below(condition, n), (condition, n))
        self.assertEqual(least(condition), found_least(condition, 0))
        self.assertEqual(condition, kept)


class TestForms(SetTest):
    def test_rest(self):
        condition = ("rest", 10, 2, 4)
        self.assertEqual([n for n in range(30) if holds(condition, n)], [2, 3, 4, 12, 13, 14, 22, 23, 24])
        self.assertEqual(least(condition), 2)
        self.assertEqual(least(condition, 2), 2)
        self.assertEqual(least(condition, 5), 12)
        self.assertEqual(below(condition, 0), 0)
        self.assertEqual(below(condition, 2), 0)
        self.assertEqual(below(condition, 3), 1)
        self.assertEqual(below(condition, 100), 30)
        self.assertEqual(below(condition, GREAT), 3 * 10 ** 59)
        self.assertEqual(least(condition, 10 ** 60 - 1), 10 ** 60 + 2)

    def test_rest_of_each_divisor(self):
        self.assertEqual(len(DIVISORS), 17)
        for m in DIVISORS:
            for a, b in ((0, 0), (0, m - 1), (m - 1, m - 1), (m // 3, m // 2)):
                self.check(("rest", m, a, b), [0, 1, m - 1, m, m + 1, 299, 300, 10 ** 59 + 7, GREAT])

    def test_self(self):
        condition = ("self", 3, 5)
        self.assertEqual([n for n in range(10) if holds(condition, n)], [3, 4, 5])
        self.assertEqual(least(condition), 3)
        self.assertEqual(least(condition, 5), 5)
        self.assertIsNone(least(condition, 6))
        self.assertEqual([below(condition, n) for n in (0, 3, 4, 5, 6, 7, GREAT)], [0, 0, 1, 2, 3, 3, 3])

    def test_self_without_an_end(self):
        condition = ("self", 3, None)
        self.assertEqual([n for n in range(6) if holds(condition, n)], [3, 4, 5])
        self.assertEqual(least(condition), 3)
        self.assertEqual(least(condition, GREAT), GREAT)
        self.assertEqual([below(condition, n) for n in (0, 3, 4, GREAT)], [0, 0, 1, GREAT - 3])

    def test_self_at_nought_and_of_many_figures(self):
        for condition in (("self", 0, 0), ("self", 0, None), ("self", 1, 1), ("self", 299, 300),
                          ("self", 10 ** 59 - 1, 10 ** 59 - 1), ("self", 10 ** 59 - 1, None),
                          ("self", 10 ** 58, 10 ** 59 - 1), ("self", 0, 10 ** 59 - 1)):
            self.check(condition, beside(condition))

    def test_empty_lists(self):
        for n in (0, 1, 300, GREAT):
            self.assertIs(holds(("and", []), n), True)
            self.assertIs(holds(("or", []), n), False)
            self.assertEqual(least(("and", []), n), n)
            self.assertIsNone(least(("or", []), n))
            self.assertEqual(below(("and", []), n), n)
            self.assertEqual(below(("or", []), n), 0)
            self.assertIsNone(least(("not", ("and", [])), n))
            self.assertEqual(below(("not", ("or", [])), n), n)
        self.assertEqual(least(("and", [])), 0)
        self.assertIsNone(least(("or", [])))

    def test_not_and_or(self):
        one = ("rest", 2, 0, 0)
        other = ("self", 3, 8)
        self.assertEqual([n for n in range(12) if holds(("and", [one, other]), n)], [4, 6, 8])
        self.assertEqual([n for n in range(12) if holds(("or", [one, other]), n)], [0, 2, 3, 4, 5, 6, 7, 8, 10])
        self.assertEqual([n for n in range(12) if holds(("not", ("or", [one, other])), n)], [1, 9, 11])
        for condition in (("and", [one, other]), ("or", [one, other]), ("not", ("or", [one, other])), ("and", [one]),
                          ("or", [other]), ("not", one), ("not", other)):
            self.check(condition, beside(condition))

    def test_no_member(self):
        for condition in (("and", [("rest", 2, 0, 0), ("rest", 2, 1, 1)]), ("not", ("self", 0, None)),
                          ("and", [("self", 5, 7), ("self", 8, None)]),
                          ("and", [("rest", 300, 7, 7), ("self", 8, 306)])):
            self.assertIsNone(least(condition))
            self.assertEqual(below(condition, GREAT), 0)
        found = ("and", [("rest", 300, 7, 7), ("self", 8, 307)])
        self.assertEqual(least(found), 307)
        self.assertIsNone(least(found, 308))
        self.assertEqual(below(found, 307), 0)
        self.assertEqual(below(found, 308), 1)

    def test_a_rest_far_within_a_self(self):
        far = 10 ** 58 + 1
        condition = ("and", [("self", far, far + 298), ("rest", 300, far % 300, far % 300), ("not", ("self", far, far))])
        self.assertIsNone(least(condition))
        condition = ("and", [("self", far, far + 300), ("rest", 300, far % 300, far % 300), ("not", ("self", far, far))])
        self.assertEqual(least(condition), far + 300)
        self.assertEqual(below(condition, far + 300), 0)
        self.assertEqual(below(condition, far + 301), 1)


class TestMany(SetTest):
    def test_small_numbers_one_by_one(self):
        rng = random.Random(2)
        for k in range(150):
            condition = some_condition(rng, 3, 400)
            members = [n for n in range(1500) if is_member(condition, n)]
            for n in [0, 1, 299, 300] + [rng.randrange(1200) for j in range(5)]:
                self.assertIs(holds(condition, n), n in members)
                self.assertEqual(below(condition, n), len([m for m in members if m < n]))
                later = [m for m in members if m >= n]
                self.assertEqual(least(condition, n), later[0] if later else None)

    def test_numbers_of_many_figures(self):
        rng = random.Random(3)
        for k in range(60):
            condition = some_condition(rng, 4, rng.choice([10 ** 4, 10 ** 30, 10 ** 59]))
            numbers = beside(condition)
            rng.shuffle(numbers)
            self.check(condition, numbers[:8] + [rng.randrange(GREAT)])

    def test_twenty_deep_and_more(self):
        rng = random.Random(4)
        for deep in (20, 25, 40):
            condition = some_leaf(rng, 10 ** 40)
            while depth(condition) < deep:
                condition = rng.choice([
                    ("not", condition), ("and", [condition]), ("or", [some_leaf(rng, 10 ** 40), condition]),
                    ("and", [condition, ("not", some_leaf(rng, 10 ** 40))])])
            self.check(condition, beside(condition)[:12] + [GREAT])

    def test_seven_thousand_leaves(self):
        rng = random.Random(6)
        step = 10 ** 55
        condition = ("or", [("self", k * step + 5, k * step + 9) for k in range(3500)]
                     + [("and", [("rest", 300, k % 300, k % 300), ("self", k * step + 100, k * step + 399)])
                        for k in range(1750)])
        self.assertEqual(least(condition), 5)
        self.assertEqual(least(condition, 10), min([n for n in range(100, 400) if n % 300 == 0]))
        self.assertEqual(least(condition, 3499 * step + 9), 3499 * step + 9)
        self.assertIsNone(least(condition, 3499 * step + 10))
        self.assertEqual(below(condition, GREAT), 3500 * 5 + 1750)
        k = rng.randrange(1750)
        self.assertEqual(below(condition, k * step + 7), k * 6 + 2)


class TestTold(SetTest):
    def test_both_and_without(self):
        one = ("rest", 2, 0, 0)
        other = ("self", 3, 8)
        self.assertEqual([n for n in range(12) if holds(both(one, other), n)], [4, 6, 8])
        self.assertEqual([n for n in range(12) if holds(without(one, other), n)], [0, 2, 10])
        self.assertEqual([n for n in range(12) if holds(without(other, one), n)], [3, 5, 7])

    def test_random_ones(self):
        rng = random.Random(7)
        for k in range(80):
            most = rng.choice([50, 10 ** 59])
            one = some_condition(rng, 3, most)
            other = some_condition(rng, 3, most)
            kept = copy.deepcopy((one, other))
            deepest = max(depth(one), depth(other))
            for told in (both(one, other), without(one, other)):
                self.assertTrue(is_condition(told))
                self.assertLessEqual(depth(told), deepest + 5)
            for n in beside(("and", [one, other]))[:20]:
                self.assertIs(holds(both(one, other), n), is_member(one, n) and is_member(other, n))
                self.assertIs(holds(without(one, other), n), is_member(one, n) and not is_member(other, n))
            self.assertEqual((one, other), kept)

    def test_told_ones_may_be_handed_in_again(self):
        condition = ("self", 0, None)
        for m in (2, 3, 4, 5, 6, 10, 12, 15):
            condition = both(condition, without(("self", 1, None), ("rest", m, 0, 0)))
        members = [n for n in range(400) if n > 0 and all([n % m for m in (2, 3, 4, 5, 6, 10, 12, 15)])]
        self.assertEqual([n for n in range(400) if holds(condition, n)], members)
        self.assertEqual(least(condition, 300), 301)
        self.assertEqual(below(condition, 400), len(members))
        self.assertTrue(is_condition(condition))

    def test_what_is_told_is_its_own(self):
        for make in (both, without):
            one = ("or", [("self", 1, 1), ("and", [("rest", 2, 0, 0)]), ("not", ("or", [("self", 5, None)]))])
            other = ("or", [("self", 70, 80), ("not", ("and", [("self", 2, None)]))])
            kept = copy.deepcopy((one, other))
            told = make(one, other)
            again = make(one, other)
            members = [n for n in range(100) if holds(told, n)]
            one[1][1][1].append(("or", []))
            one[1][2][1][1].clear()
            one[1].pop()
            other[1][1][1][1].clear()
            other[1].clear()
            self.assertEqual([n for n in range(100) if holds(told, n)], members)
            told[1].clear()
            self.assertEqual([n for n in range(100) if holds(again, n)], members)
            self.assertEqual(again, make(kept[0], kept[1]))

    def test_changing_what_is_told_changes_nothing_that_was_handed_in(self):
        one = ("or", [("and", [("rest", 2, 0, 0)])])
        other = ("not", ("or", [("self", 5, None)]))
        kept = copy.deepcopy((one, other))
        told = both(one, other)
        told[1][0][1][0][1].clear()
        told[1][1][1][1].clear()
        told = without(one, other)
        told[1][0][1].clear()
        told[1][1][1][1][1].clear()
        self.assertEqual((one, other), kept)


if __name__ == "__main__":
    unittest.main()
