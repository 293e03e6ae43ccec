"""The ways through a piece, of saywell.paths: points [21] and [22]."""

import copy
import itertools
import random
import unittest

from saywell.errors import NoMessage, NoTongue
from saywell.patterns import part_at
from saywell.paths import arms
from saywell.roads import word_of
from saywell.rules import way_of
from helper import a_house, a_tongue, put, some_house, told_of

SLAVIC = "one: self in 1..1; few: (rest 10 in 2..4 and not rest 100 in 12..14); many"


def rows_of(text, gaps, rules=SLAVIC, words=(("cat", "f"), ("dog", "m")), things=("cat", "dog"), kinds=("m", "f")):
    house = a_house([a_tongue("de", [], rules)], things=things, kinds=kinds)
    for thing, kind in words:
        house.word("de", thing, "Text", kind)
    house.declare("k", gaps)
    put(house, "de", "k", text)
    return arms(house, "de", "k")


class TestArms(unittest.TestCase):
    def test_no_choice(self):
        self.assertEqual(rows_of("", []), [])
        self.assertEqual(rows_of("a{n}", [("n", "count")]), [])

    def test_the_example(self):
        self.assertEqual(rows_of("{#n =0[no tile] one[a tile] else[{n} tiles]}", [("n", "count")]), [
            ((0,), "=0", ("taken", {"n": 0})),
            ((0,), "one", ("taken", {"n": 1})),
            ((0,), "else", ("taken", {"n": 2})),
        ])

    def test_lacking(self):
        self.assertEqual(rows_of("{#n =0[] one[] few[]}", [("n", "count")]), [
            ((0,), "=0", ("taken", {"n": 0})),
            ((0,), "one", ("taken", {"n": 1})),
            ((0,), "few", ("taken", {"n": 2})),
            ((0,), None, ("lacking", {"n": 5})),
        ])

    def test_least_values_of_all_declared_gaps(self):
        gaps = [("d", "day"), ("x", "number"), ("n", "count"), ("t", "thing")]
        self.assertEqual(rows_of("{#n few[]}", gaps), [
            ((0,), "few", ("taken", {"d": 0, "x": 0, "n": 2, "t": "cat"})),
            ((0,), None, ("lacking", {"d": 0, "x": 0, "n": 0, "t": "cat"})),
        ])
        gaps = [("l", "list"), ("r", "rank"), ("n", "count")]
        self.assertEqual(rows_of("{#n one[]}", gaps), [
            ((0,), "one", ("taken", {"l": [], "r": "low", "n": 1})),
            ((0,), None, ("lacking", {"l": [], "r": "low", "n": 0})),
        ])

    def test_lists_by_their_length(self):
        self.assertEqual(rows_of("{#l one[] few[] =3[] =8[] =9[] many[]}", [("l", "list")]), [
            ((0,), "one", ("taken", {"l": ["cat"]})),
            ((0,), "few", ("taken", {"l": ["cat", "cat"]})),
            ((0,), "=3", ("taken", {"l": ["cat"] * 3})),
            ((0,), "=8", ("taken", {"l": ["cat"] * 8})),
            ((0,), "=9", ("needless", "l")),
            ((0,), "many", ("taken", {"l": []})),
        ])
        self.assertEqual(rows_of("{#l big[] else[]}", [("l", "list")], "big: self from 9; other")[0],
                         ((0,), "big", ("needless", "l")))
        self.assertEqual(rows_of("{#l small[]}", [("l", "list")], "small: self in 0..8; other"),
                         [((0,), "small", ("taken", {"l": []}))])

    def test_kinds(self):
        self.assertEqual(rows_of("{~t m[] f[] n[]}", [("t", "thing")]), [
            ((0,), "m", ("taken", {"t": "dog"})),
            ((0,), "f", ("taken", {"t": "cat"})),
            ((0,), "n", ("needless", "t")),
        ])
        self.assertEqual(rows_of("{~t m[]}", [("t", "thing")]), [
            ((0,), "m", ("taken", {"t": "dog"})),
            ((0,), None, ("lacking", {"t": "cat"})),
        ])

    def test_ranks(self):
        self.assertEqual(rows_of("{^r high[] x[]}", [("r", "rank")]), [
            ((0,), "high", ("taken", {"r": "high"})),
            ((0,), "x", ("needless", "r")),
            ((0,), None, ("lacking", {"r": "low"})),
        ])

    def test_things_without_a_text(self):
        gaps = [("t", "thing"), ("n", "count")]
        words = [("dog", "m"), ("ant", "f")]
        things = ["cat", "dog", "ant"]
        self.assertEqual(rows_of("{~t m[] else[{#n one[]}]}", gaps, words=words, things=things), [
            ((0,), "m", ("taken", {"t": "dog", "n": 0})),
            ((0,), "else", ("taken", {"t": "ant", "n": 0})),
            ((0, 1, 0), "one", ("taken", {"t": "ant", "n": 1})),
            ((0, 1, 0), None, ("lacking", {"t": "ant", "n": 0})),
        ])
        self.assertEqual(rows_of("{~t m[] f[]}", gaps, words=words, things=things), [
            ((0,), "m", ("taken", {"t": "dog", "n": 0})),
            ((0,), "f", ("taken", {"t": "ant", "n": 0})),
        ])
        self.assertEqual(rows_of("{#n one[] else[]}", gaps, words=words, things=things), [
            ((0,), "one", ("taken", {"t": "cat", "n": 1})),
            ((0,), "else", ("taken", {"t": "cat", "n": 0})),
        ])
        self.assertEqual(rows_of("{~t else[]}", gaps, words=[], things=things), [((0,), "else", ("needless", "t"))])
        self.assertEqual(rows_of("{~t m[]}", gaps, words=[], things=things), [((0,), "m", ("needless", "t"))])

    def test_texts_farther_on_the_road(self):
        house = a_house([a_tongue("de", ["en"]), a_tongue("en", [], "few: self from 5; one")])
        house.word("en", "dog", "dog", "m")
        house.declare("k", [("t", "thing"), ("n", "count")])
        put(house, "de", "k", "{~t m[] f[]}{#n one[] few[]}")
        self.assertEqual(arms(house, "de", "k"), [
            ((0,), "m", ("taken", {"t": "dog", "n": 0})),
            ((0,), "f", ("needless", "t")),
            ((1,), "one", ("taken", {"t": "cat", "n": 1})),
            ((1,), "few", ("needless", "n")),
            ((1,), None, ("lacking", {"t": "cat", "n": 0})),
        ])

    def test_choices_in_one_another_on_the_same_gap(self):
        self.assertEqual(rows_of("{#n few[{#n =2[] =5[] else[{#n =3[] else[]}]}] else[{#n few[] =7[]}]}",
                                 [("n", "count")]), [
            ((0,), "few", ("taken", {"n": 2})),
            ((0,), "else", ("taken", {"n": 0})),
            ((0, 0, 0), "=2", ("taken", {"n": 2})),
            ((0, 0, 0), "=5", ("needless", "n")),
            ((0, 0, 0), "else", ("taken", {"n": 3})),
            ((0, 0, 0, 2, 0), "=3", ("taken", {"n": 3})),
            ((0, 0, 0, 2, 0), "else", ("taken", {"n": 4})),
            ((0, 1, 0), "few", ("needless", "n")),
            ((0, 1, 0), "=7", ("taken", {"n": 7})),
            ((0, 1, 0), None, ("lacking", {"n": 0})),
        ])

    def test_choices_in_one_another_on_other_gaps(self):
        gaps = [("n", "count"), ("t", "thing"), ("r", "rank")]
        self.assertEqual(rows_of("x{~t m[{^r low[{#n one[]}]}] f[]}{#n else[]}", gaps), [
            ((1,), "m", ("taken", {"n": 0, "t": "dog", "r": "low"})),
            ((1,), "f", ("taken", {"n": 0, "t": "cat", "r": "low"})),
            ((1, 0, 0), "low", ("taken", {"n": 0, "t": "dog", "r": "low"})),
            ((1, 0, 0), None, ("lacking", {"n": 0, "t": "dog", "r": "high"})),
            ((1, 0, 0, 0, 0), "one", ("taken", {"n": 1, "t": "dog", "r": "low"})),
            ((1, 0, 0, 0, 0), None, ("lacking", {"n": 0, "t": "dog", "r": "low"})),
            ((2,), "else", ("taken", {"n": 0, "t": "cat", "r": "low"})),
        ])

    def test_the_first_declared_gap_that_nothing_fits(self):
        gaps = [("r", "rank"), ("t", "thing"), ("n", "count")]
        text = "{#n =1[{#n =2[{~t x[{^r x[]}]}]}]}"
        told = {place: row for place, name, row in rows_of(text, gaps) if name is not None}
        self.assertEqual(told[(0,)], ("taken", {"r": "low", "t": "cat", "n": 1}))
        self.assertEqual(told[(0, 0, 0)], ("needless", "n"))
        self.assertEqual(told[(0, 0, 0, 0, 0)], ("needless", "t"))
        self.assertEqual(told[(0, 0, 0, 0, 0, 0, 0)], ("needless", "r"))
        self.assertEqual([place for place, name, row in rows_of(text, gaps) if name is None], [(0,), (0, 0, 0)])

    def test_counts_of_many_figures(self):
        far = 10 ** 58
        rules = f"far: (self in {far}..{far + 400} and rest 300 in 299..299); other"
        gaps = [("n", "count")]
        self.assertEqual(rows_of("{#n far[] else[]}", gaps, rules), [
            ((0,), "far", ("taken", {"n": far + (299 - far) % 300})),
            ((0,), "else", ("taken", {"n": 0})),
        ])
        nines = 10 ** 59 - 1
        self.assertEqual(rows_of("{#n =" + str(nines) + "[] high[{#n =" + str(nines) + "[] =7[]}] low[]}", gaps,
                                 f"low: self in 0..{nines - 1}; high"), [
            ((0,), "=" + str(nines), ("taken", {"n": nines})),
            ((0,), "high", ("taken", {"n": 10 ** 59})),
            ((0,), "low", ("taken", {"n": 0})),
            ((0, 1, 0), "=" + str(nines), ("needless", "n")),
            ((0, 1, 0), "=7", ("needless", "n")),
            ((0, 1, 0), None, ("lacking", {"n": 10 ** 59})),
        ])

    def test_arms_by_the_order_of_the_piece(self):
        self.assertEqual([row[:2] for row in rows_of("{#n else[{#n a[]}] b[{#n c[]}]}{#n d[]}", [("n", "count")], "b")], [
            ((0,), "else"), ((0,), "b"), ((0, 0, 0), "a"), ((0, 1, 0), "c"), ((0, 1, 0), None), ((1,), "d"), ((1,), None)])


class TestRefused(unittest.TestCase):
    def test_refusals(self):
        house = a_house([a_tongue("de", ["en"]), "en"])
        house.declare("k", [])
        put(house, "en", "k", "x")
        for tongue, key, error_class in (("xx", "k", NoTongue), ("xx", "x", NoTongue), ("de", "k", NoMessage),
                                         ("de", "x", NoMessage), ("en", "x", NoMessage)):
            with self.subTest(tongue=tongue, key=key), self.assertRaises(error_class):
                arms(house, tongue, key)
        self.assertEqual(arms(house, "en", "k"), [])

    def test_what_is_told_is_its_own(self):
        house = a_house(["de"])
        house.declare("k", [("l", "list"), ("n", "count")])
        put(house, "de", "k", "{#l =2[] else[]}{#n one[] else[]}")
        before = copy.deepcopy(told_of(house)[5:])
        rows = arms(house, "de", "k")
        kept = copy.deepcopy(rows)
        rows[0][2][1]["l"].append("x")
        rows[1][2][1].clear()
        self.assertEqual(rows[2:], kept[2:])
        rows.clear()
        self.assertEqual(arms(house, "de", "k"), kept)
        self.assertEqual(told_of(house)[5:], before)


class TestRandom(unittest.TestCase):
    """Against all values of small bounds: what a piece's choices meet with each of them."""

    def arm(self, house, tongue, part, value):
        how, gap, ways = part
        names = [name for name, within in ways]
        if how == "many":
            number = len(value) if isinstance(value, list) else value
            word = way_of(house.tongue_named(tongue).rules, number)
            if f"={number}" in names:
                return f"={number}"
        elif how == "kind":
            found = word_of(house, tongue, value)
            if found is None:
                return "no kind"
            word = found[2]
        else:
            word = value
        return word if word in names else "else" if "else" in names else None

    def met(self, house, tongue, pattern, values, ahead=()):
        """The pairs (place, name) that these values meet."""
        pairs = []
        for k, part in enumerate(pattern):
            if part[0] in ("many", "kind", "rank"):
                place = ahead + (k,)
                name = self.arm(house, tongue, part, values[part[1]])
                pairs.append((place, name))
                for number, (each, within) in enumerate(part[2]):
                    if each == name:
                        pairs.extend(self.met(house, tongue, within, values, place + (number,)))
        return pairs

    def test_random_pieces(self):
        rng = random.Random(71)
        seen = 0
        while seen < 120:
            house = some_house(rng)
            for tongue in house.tongues():
                for key in house.messages():
                    if house.piece(tongue, key) is not None and seen < 120:
                        seen = seen + (1 if self.check(house, tongue, key) else 0)

    def check(self, house, tongue, key):
        first = house.things()[0]
        domains = {"count": range(60), "number": [0], "day": [0], "thing": house.things(), "rank": house.ranks(),
                   "list": [[first] * length for length in range(9)]}
        gaps = house.gaps(key)
        if [kind for gap, kind in gaps].count("count") > 1:
            return False
        pattern = house.piece(tongue, key)
        found = {}
        for row in itertools.product(*[list(enumerate(domains[kind])) for gap, kind in gaps]):
            values = {gap: value for (gap, kind), (number, value) in zip(gaps, row)}
            for pair in self.met(house, tongue, pattern, values):
                numbers = [number for number, value in row]
                found[pair] = [min(each) for each in zip(found[pair], numbers)] if pair in found else numbers
        rows = arms(house, tongue, key)
        self.assertEqual(len(set([row[:2] for row in rows])), len(rows))
        for place, name, told in rows:
            self.assertEqual(part_at(pattern, place)[0] in ("many", "kind", "rank"), True)
            if told[0] == "needless":
                self.assertNotIn((place, name), found)
                self.assertIn(told[1], [gap for gap, kind in gaps])
            else:
                self.assertEqual(told[0], "lacking" if name is None else "taken")
                least = {gap: domains[kind][number] for (gap, kind), number in zip(gaps, found[(place, name)])}
                self.assertEqual(told[1], least)
        self.assertEqual(set([pair for pair in found if pair[1] != "no kind"]),
                         set([row[:2] for row in rows if row[2][0] != "needless"]))
        return rows != []


if __name__ == "__main__":
    unittest.main()
