"""The flaws of a message, of saywell.looks: point [23]."""

import copy
import random
import unittest

from saywell.errors import NoMessage, NoTongue
from saywell.looks import flaws
from saywell.paths import arms
from saywell.patterns import calls_of
from saywell.roads import owner, word_of
from helper import a_house, a_tongue, put, some_house, told_of


def house_with(pieces, gaps=None, tongues=("de",), words=()):
    """A house in which each key of the pieces (tongue, key) is declared, with its gaps if it has any."""
    house = a_house(tongues)
    for tongue, thing in words:
        house.word(tongue, thing, "Text", "m")
    for key in sorted(set([key for tongue, key in pieces] + [key for key in gaps or {}])):
        house.declare(key, (gaps or {}).get(key, []))
    for (tongue, key), text in pieces.items():
        put(house, tongue, key, text)
    return house


def sorted_flaws(house, tongue, key):
    return sorted(flaws(house, tongue, key), key=repr)


class TestEach(unittest.TestCase):
    def test_no_flaw(self):
        self.assertEqual(flaws(house_with({("de", "k"): ""}), "de", "k"), [])
        house = house_with({("de", "k"): "{#n one[{@l m=n}] else[]}", ("de", "l"): "{m}"},
                           {"k": [("n", "count")], "l": [("m", "count")]})
        self.assertEqual(flaws(house, "de", "k"), [])

    def test_refusals(self):
        house = house_with({("de", "k"): ""})
        for tongue, key, error_class in (("xx", "k", NoTongue), ("xx", "x", NoTongue), ("de", "x", NoMessage)):
            with self.subTest(tongue=tongue, key=key), self.assertRaises(error_class):
                flaws(house, tongue, key)

    def test_unfound_itself(self):
        house = house_with({}, {"k": [("t", "thing")]}, tongues=[a_tongue("de", ["en"]), "en"])
        self.assertEqual(flaws(house, "de", "k"), [("unfound", "de", "k")])
        house.declare("w", [], whole=True)
        house.declare("l", [])
        put(house, "de", "w", "{@l}")
        self.assertEqual(flaws(house, "de", "w"), [("unfound", "de", "w")])

    def test_unfound_through_a_call(self):
        house = house_with({("de", "k"): "{@l}{@l}{@m}", ("de", "m"): "{@l}{@n}"}, {"l": [], "n": []})
        self.assertEqual(sorted_flaws(house, "de", "k"), [("unfound", "de", "l"), ("unfound", "de", "n")])

    def test_unfound_is_told_of_the_piece_that_calls(self):
        house = house_with({("en", "k"): "{@l}"}, {"l": []}, tongues=[a_tongue("de", ["en"]), a_tongue("en", ["fr"]), "fr"])
        self.assertEqual(flaws(house, "de", "k"), [("unfound", "en", "l")])
        put(house, "de", "l", "x")
        self.assertEqual(flaws(house, "de", "k"), [("unfound", "en", "l")])
        put(house, "fr", "l", "x")
        self.assertEqual(flaws(house, "de", "k"), [])

    def test_unnamed(self):
        for kind in ("thing", "list"):
            house = house_with({("de", "k"): "x"}, {"k": [("t", kind)]}, words=[("de", "dog")])
            self.assertEqual(flaws(house, "de", "k"), [("unnamed", "de", "cat")])
            house = house_with({("de", "k"): "x"}, {"k": [("t", kind)]})
            self.assertEqual(sorted_flaws(house, "de", "k"), [("unnamed", "de", "cat"), ("unnamed", "de", "dog")])
        for kind in ("count", "number", "day", "rank"):
            self.assertEqual(flaws(house_with({("de", "k"): "x"}, {"k": [("t", kind)]}), "de", "k"), [])

    def test_unnamed_on_the_owners_road(self):
        tongues = [a_tongue("de", ["en"]), a_tongue("en", [])]
        house = house_with({("en", "k"): "x"}, {"k": [("t", "thing")]}, tongues, [("de", "cat"), ("de", "dog"), ("en", "cat")])
        self.assertEqual(flaws(house, "de", "k"), [("unnamed", "en", "dog")])
        house.word("en", "dog", "dog", "m")
        self.assertEqual(flaws(house, "de", "k"), [])

    def test_unnamed_once_though_two_messages_declare_one(self):
        house = house_with({("de", "k"): "{@l u=t}", ("de", "l"): "x"}, {"k": [("t", "thing")], "l": [("u", "thing")]},
                           words=[("de", "cat")])
        self.assertEqual(flaws(house, "de", "k"), [("unnamed", "de", "dog")])

    def test_lacking(self):
        house = house_with({("de", "k"): "x{#n one[{^r low[]}] =0[]}"}, {"k": [("n", "count"), ("r", "rank")]})
        self.assertEqual(sorted_flaws(house, "de", "k"), [
            ("lacking", "de", "k", (1, 0, 0), {"n": 1, "r": "high"}), ("lacking", "de", "k", (1,), {"n": 2, "r": "low"})])

    def test_lacking_where_no_caller_brings_the_values(self):
        house = house_with({("de", "k"): "{#n =1[{@l m=n}] else[]}", ("de", "l"): "{#m one[]}"},
                           {"k": [("n", "count")], "l": [("m", "count")]})
        self.assertEqual(flaws(house, "de", "k"), [("lacking", "de", "l", (0,), {"m": 0})])

    def test_lacking_through_an_arm_that_no_values_take(self):
        house = house_with({("de", "k"): "{#n none[{@l m=n}] else[]}", ("de", "l"): "{#m one[]}"},
                           {"k": [("n", "count")], "l": [("m", "count")]})
        self.assertEqual(flaws(house, "de", "k"), [("lacking", "de", "l", (0,), {"m": 0})])

    def test_a_fallen_back_piece_goes_by_its_owner(self):
        house = house_with({("en", "k"): "{#n one[] other[]}", ("de", "k"): "{#n all[]}"}, {"k": [("n", "count")]},
                           tongues=[a_tongue("de", ["en"], "all"), a_tongue("en", ["de"])])
        self.assertEqual(flaws(house, "de", "k"), [])
        self.assertEqual(flaws(house, "en", "k"), [])
        house.drop("de", "k")
        self.assertEqual(flaws(house, "de", "k"), [])
        put(house, "en", "k", "{#n all[]}")
        self.assertEqual(flaws(house, "de", "k"), [("lacking", "en", "k", (0,), {"n": 0})])

    def test_only_pieces_that_are_reached(self):
        house = house_with({("de", "k"): "x", ("de", "l"): "{#m one[]}{@l m=m}", ("en", "k"): "{@l m=m}"},
                           {"k": [("m", "count")], "l": [("m", "count")]}, tongues=[a_tongue("de", ["en"]), "en"])
        self.assertEqual(flaws(house, "de", "k"), [])


class TestRound(unittest.TestCase):
    def assert_ring(self, house, tongue, key, pairs):
        """That one ring is told, which is this one begun anywhere."""
        told = flaws(house, tongue, key)
        self.assertEqual([flaw[0] for flaw in told], ["round"])
        turned = [pairs[k:] + pairs[:k] for k in range(len(pairs))]
        self.assertIn(told[0][1], turned)

    def test_a_ring_of_one(self):
        self.assert_ring(house_with({("de", "k"): "{@k}"}), "de", "k", [("de", "k")])

    def test_a_ring_of_several(self):
        house = house_with({("de", "k"): "{@l}", ("de", "l"): "x{@m}", ("de", "m"): "{@k}"})
        for key in ("k", "l", "m"):
            self.assert_ring(house, "de", key, [("de", "k"), ("de", "l"), ("de", "m")])

    def test_a_ring_farther_on(self):
        house = house_with({("de", "k"): "{@a}{@l}", ("de", "a"): "x", ("de", "l"): "{@a}{@m}", ("de", "m"): "{@l}"})
        self.assert_ring(house, "de", "k", [("de", "l"), ("de", "m")])
        self.assertEqual(flaws(house, "de", "a"), [])

    def test_a_ring_over_tongues(self):
        tongues = [a_tongue("de", ["en"]), a_tongue("en", ["de"])]
        house = house_with({("de", "k"): "{@l}", ("en", "l"): "{@k}"}, tongues=tongues)
        self.assert_ring(house, "de", "k", [("de", "k"), ("en", "l")])
        self.assert_ring(house, "en", "k", [("de", "k"), ("en", "l")])
        put(house, "en", "k", "x")
        self.assertEqual(flaws(house, "de", "k"), [])

    def test_a_ring_in_an_arm_that_no_values_take(self):
        house = house_with({("de", "k"): "{#n none[{@k n=n}] else[]}"}, {"k": [("n", "count")]})
        self.assert_ring(house, "de", "k", [("de", "k")])

    def test_a_call_twice_is_no_ring(self):
        house = house_with({("de", "k"): "{@l}{@m}{@l}", ("de", "l"): "{@m}", ("de", "m"): "x"})
        self.assertEqual(flaws(house, "de", "k"), [])

    def test_no_great_where_it_goes_round(self):
        pieces = {("de", "k"): "{@l}" * 40, ("de", "l"): "{@m}" * 40, ("de", "m"): "{@k}"}
        told = flaws(house_with(pieces), "de", "k")
        self.assertEqual([flaw[0] for flaw in told], ["round"])

    def test_a_ring_of_more_than_two_hundred(self):
        names = ["a", "b", "c", "d", "e", "f", "g", "h"]
        keys = [first + second for first in "abcdef" for second in "vwxyz"]
        tongues = [a_tongue(name, [names[(k + 1) % 8]]) for k, name in enumerate(names)]
        house = a_house(tongues)
        for key in keys:
            house.declare(key, [])
        for k, key in enumerate(keys):
            for name in names:
                put(house, name, key, "{@" + keys[(k + 1) % 30] + "}")
        told = flaws(house, "a", keys[0])
        self.assertEqual([flaw[0] for flaw in told], ["round"])
        self.assertEqual(len(told[0][1]), 30)


class TestGreat(unittest.TestCase):
    def test_two_hundred_parts(self):
        pieces = {("de", "k"): "{@l}" * 4 + "x", ("de", "l"): "{@m}{@m}" + "y{@n}" * 14, ("de", "m"): "{@n}" * 8,
                  ("de", "n"): ""}
        house = house_with(pieces)
        self.assertEqual(flaws(house, "de", "k"), [])
        self.assertEqual(flaws(house, "de", "l"), [])
        put(house, "de", "k", "{@l}" * 4 + "x{@n}{@n}{@n}{@n}{@n}{@n}{@n}{@n}{@n}{@n}{@n}")
        self.assertEqual(flaws(house, "de", "k"), [])
        put(house, "de", "k", "{@l}" * 4 + "x{@n}{@n}{@n}{@n}{@n}{@n}{@n}{@n}{@n}{@n}{@n}{@n}")
        self.assertEqual(flaws(house, "de", "k"), [("great", 201, 4)])

    def test_parts_of_all_arms_are_counted(self):
        house = house_with({("de", "k"): "{#n one[" + "{n}" * 18 + "] else[" + "{n}" * 18 + "x]}",
                            ("de", "l"): "{@k n=n}"}, {"k": [("n", "count")], "l": [("n", "count")]})
        self.assertEqual(flaws(house, "de", "l"), [])
        put(house, "de", "l", "{@k n=n}" * 5 + "{n}" * 5)
        self.assertEqual(flaws(house, "de", "l"), [])
        put(house, "de", "l", "{@k n=n}" * 5 + "{n}" * 6)
        self.assertEqual(flaws(house, "de", "l"), [("great", 201, 2)])

    def test_eight_deep(self):
        keys = list("abcdefghij")
        pieces = {("de", key): "{@" + keys[k + 1] + "}" for k, key in enumerate(keys[:-1])}
        pieces[("de", "j")] = ""
        house = house_with(pieces)
        self.assertEqual(flaws(house, "de", "c"), [])
        self.assertEqual(flaws(house, "de", "b"), [("great", 8, 9)])
        self.assertEqual(flaws(house, "de", "a"), [("great", 9, 10)])

    def test_a_call_without_an_owner_adds_nothing(self):
        keys = list("abcdefgh")
        pieces = {("de", key): "{@" + (keys + ["z"])[k + 1] + "}" for k, key in enumerate(keys)}
        house = house_with(pieces, {"z": []})
        self.assertEqual(flaws(house, "de", "a"), [("unfound", "de", "z")])
        put(house, "de", "z", "")
        self.assertEqual(flaws(house, "de", "a"), [("great", 8, 9)])

    def test_very_many_parts(self):
        keys = ["k" + chr(97 + k // 26) + chr(97 + k % 26) for k in range(30)]
        house = a_house(["de"])
        for key in keys:
            house.declare(key, [])
        for k, key in enumerate(keys[:-1]):
            put(house, "de", key, ("{@" + keys[k + 1] + "}") * 40)
        put(house, "de", keys[-1], "x")
        parts = 1
        for k in range(29):
            parts = 40 + 40 * parts
        self.assertEqual(flaws(house, "de", keys[0]), [("great", parts, 30)])

    def test_a_long_chain_over_tongues(self):
        names = ["a", "b", "c", "d", "e", "f", "g", "h"]
        keys = ["k" + chr(97 + k) for k in range(26)]
        tongues = [a_tongue(name, names[k + 1:k + 2]) for k, name in enumerate(names)]
        house = a_house(tongues)
        for key in keys:
            house.declare(key, [])
        for name in names:
            for k, key in enumerate(keys[:-1]):
                put(house, name, key, "{@" + keys[k + 1] + "}")
        self.assertEqual(flaws(house, "a", keys[0]), [("unfound", "a", keys[-1]), ("great", 25, 25)])


class TestTogether(unittest.TestCase):
    def test_all_sorts(self):
        tongues = [a_tongue("de", ["en"]), a_tongue("en", ["de"])]
        house = house_with({
            ("de", "k"): "{#n one[]}{@l t=t}{@z}", ("en", "l"): "{~t m[]}{@m}", ("en", "m"): "{@y}{@m}",
        }, {"k": [("n", "count"), ("t", "thing")], "l": [("t", "thing")], "z": [], "y": []}, tongues, [("de", "cat")])
        self.assertEqual(sorted_flaws(house, "de", "k"), sorted([
            ("lacking", "de", "k", (0,), {"n": 0, "t": "cat"}), ("unfound", "de", "z"), ("unfound", "en", "y"),
            ("unnamed", "de", "dog"), ("unnamed", "en", "dog"), ("round", [("en", "m")]),
        ], key=repr))

    def test_what_is_told_is_its_own(self):
        house = house_with({("de", "k"): "{#l one[]}{@m}", ("de", "m"): "{@m}"}, {"k": [("l", "list")]})
        before = copy.deepcopy(told_of(house)[5:])
        told = flaws(house, "de", "k")
        kept = copy.deepcopy(told)
        for flaw in told:
            if flaw[0] == "lacking":
                flaw[4]["l"].append("x")
            if flaw[0] == "round":
                flaw[1].clear()
        told.clear()
        self.assertEqual(flaws(house, "de", "k"), kept)
        self.assertEqual(told_of(house)[5:], before)

    def test_random_houses(self):
        rng = random.Random(81)
        sorts = {}
        for k in range(150):
            house = some_house(rng)
            for tongue in house.tongues():
                for key in house.messages():
                    for flaw in self.check(house, tongue, key):
                        sorts[flaw[0]] = True
        self.assertEqual(sorted(sorts), ["lacking", "round", "unfound", "unnamed"])

    def check(self, house, tongue, key):
        told = flaws(house, tongue, key)
        first = owner(house, tongue, key)
        if first is None:
            self.assertEqual(told, [("unfound", tongue, key)])
            return told
        pairs = {(first, key): True}
        for k in range(30):
            for name, each in list(pairs):
                for called in calls_of(house.piece(name, each)):
                    pairs[(owner(house, name, called), called)] = True
            pairs = {pair: True for pair in pairs if pair[0] is not None}
        expected = []
        rings = {pair: [(owner(house, pair[0], called), called) for called in calls_of(house.piece(*pair))]
                 for pair in pairs}
        for name, each in pairs:
            expected.extend([("unfound", name, called) for called in calls_of(house.piece(name, each))
                             if owner(house, name, called) is None])
            if set([kind for gap, kind in house.gaps(each)]) & {"thing", "list"}:
                expected.extend([("unnamed", name, thing) for thing in house.things()
                                 if word_of(house, name, thing) is None])
            expected.extend([("lacking", name, each, place, row[1]) for place, arm, row in arms(house, name, each)
                             if arm is None])
        plain = [flaw for flaw in told if flaw[0] not in ("round", "great")]
        self.assertEqual(sorted(map(repr, plain)), sorted(set(map(repr, expected))))
        self.check_rings([flaw[1] for flaw in told if flaw[0] == "round"], rings)
        return told

    def check_rings(self, told, calls):
        ahead = {pair: set(calls[pair]) for pair in calls}
        for k in range(len(calls) + 1):
            for pair in ahead:
                for called in list(ahead[pair]):
                    ahead[pair] |= ahead.get(called, set())
        self.assertEqual(told != [], any([pair in ahead[pair] for pair in ahead]))
        for ring in told:
            for pair, following in zip(ring, ring[1:] + ring[:1]):
                self.assertIn(following, calls[pair])


if __name__ == "__main__":
    unittest.main()
