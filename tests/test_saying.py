"""How messages are said, of saywell.saying: points [24], and (a) of [4]."""

import copy
import random
import unittest

from saywell.errors import Lacking, NoMessage, NoThing, NoTongue, NoValue, SayError, TooGreat
from saywell.gapkinds import value_text
from saywell.looks import flaws
from saywell.paths import arms
from saywell.roads import owner, word_of
from saywell.rules import way_of
from saywell.saying import pieces, say
from helper import GREAT, a_house, a_tongue, put, some_house, some_values, told_of

SLAVIC = "one: self in 1..1; few: (rest 10 in 2..4 and not rest 100 in 12..14); many"


def a_german_house():
    house = a_house([
        a_tongue("de", ["en"], joiners=("nichts", " und ", ", ", " und "), figures=(3, 3, ".", "~", "0123456789"),
                 dayform=("dmy", ". ", None)),
        a_tongue("en", ["de"], SLAVIC, dayform=("mdy", "/", None)),
        a_tongue("xx", []),
    ])
    house.word("de", "cat", "Katze", "f")
    house.word("en", "cat", "cat", "m")
    house.word("en", "dog", "dog", "m")
    return house


class SayTest(unittest.TestCase):
    def assert_said(self, house, tongue, key, values, text):
        with self.subTest(tongue=tongue, key=key, values=values):
            kept = copy.deepcopy(values)
            self.assertEqual(say(house, tongue, key, values), text)
            self.assertEqual("".join([row[3] for row in pieces(house, tongue, key, values)]), text)
            self.assertEqual(values, kept)

    def assert_refused(self, error_class, house, tongue, key, values):
        for call in (say, pieces):
            with self.subTest(call=call, tongue=tongue, key=key, values=values):
                kept = copy.deepcopy(values)
                with self.assertRaises(SayError) as caught:
                    call(house, tongue, key, values)
                self.assertEqual(type(caught.exception), error_class)
                self.assertEqual(values, kept)
        return caught.exception


class TestParts(SayTest):
    def test_texts_and_gaps(self):
        house = a_german_house()
        house.declare("k", [("n", "count"), ("x", "number"), ("t", "thing"), ("d", "day")])
        put(house, "de", "k", "n {n}, x {x}, t {t}, d {d}!")
        values = {"n": 1234, "x": -5678, "t": "cat", "d": 59}
        self.assert_said(house, "de", "k", values, "n 1.234, x ~5.678, t Katze, d 29. 2. 0!")
        self.assertEqual(pieces(house, "de", "k", values), [
            ("de", "k", "", "n "), ("de", "k", "n", "1.234"), ("de", "k", "", ", x "), ("de", "k", "x", "~5.678"),
            ("de", "k", "", ", t "), ("de", "k", "t", "Katze"), ("de", "k", "", ", d "), ("de", "k", "d", "29. 2. 0"),
            ("de", "k", "", "!")])

    def test_the_empty_message(self):
        house = a_german_house()
        house.declare("k", [])
        put(house, "de", "k", "")
        self.assert_said(house, "de", "k", {}, "")
        self.assertEqual(pieces(house, "de", "k", {}), [])

    def test_lists(self):
        house = a_german_house()
        house.declare("k", [("l", "list")])
        put(house, "de", "k", "{#l =0[keine] one[eins] other[{l}!]}")
        self.assert_said(house, "de", "k", {"l": []}, "keine")
        self.assert_said(house, "de", "k", {"l": ["dog"]}, "eins")
        self.assert_said(house, "de", "k", {"l": ["cat", "dog"]}, "Katze und dog!")
        self.assert_said(house, "de", "k", {"l": ["cat", "cat", "dog"]}, "Katze, Katze und dog!")
        self.assert_said(house, "de", "k", {"l": ["dog"] * 8}, ", ".join(["dog"] * 7) + " und dog!")

    def test_texts_that_are_empty(self):
        house = a_house([a_tongue("de", [], joiners=("", "-", "-", "-"))])
        house.declare("k", [("l", "list")])
        put(house, "de", "k", "{l}{l}")
        self.assert_said(house, "de", "k", {"l": []}, "")
        self.assertEqual(pieces(house, "de", "k", {"l": []}), [("de", "k", "l", ""), ("de", "k", "l", "")])

    def test_choices(self):
        house = a_german_house()
        house.declare("k", [("n", "count"), ("t", "thing"), ("r", "rank")])
        put(house, "en", "k", "{#n =0[no] one[a] few[{n} few] many[{n} many]} {~t m[he] else[she]}{^r high[!] low[?]}")
        self.assert_said(house, "en", "k", {"n": 0, "t": "cat", "r": "low"}, "no he?")
        self.assert_said(house, "en", "k", {"n": 1, "t": "dog", "r": "high"}, "a he!")
        self.assert_said(house, "en", "k", {"n": 23, "t": "dog", "r": "high"}, "23 few he!")
        self.assert_said(house, "en", "k", {"n": 12, "t": "dog", "r": "high"}, "12 many he!")
        self.assert_said(house, "en", "k", {"n": GREAT - 1, "t": "dog", "r": "high"},
                         ",".join(["999"] * 20) + " many he!")
        house = a_german_house()
        house.declare("k", [("t", "thing")])
        put(house, "de", "k", "{~t m[he] else[she]}")
        self.assert_said(house, "de", "k", {"t": "cat"}, "she")
        self.assert_said(house, "de", "k", {"t": "dog"}, "he")

    def test_choices_in_one_another(self):
        house = a_german_house()
        house.declare("k", [("n", "count"), ("r", "rank")])
        put(house, "de", "k", "<{#n one[{^r low[a{n}] high[b]}x] else[{#n =2[{n}{^r else[c]}] else[]}]}>")
        self.assert_said(house, "de", "k", {"n": 1, "r": "low"}, "<a1x>")
        self.assert_said(house, "de", "k", {"n": 1, "r": "high"}, "<bx>")
        self.assert_said(house, "de", "k", {"n": 2, "r": "high"}, "<2c>")
        self.assert_said(house, "de", "k", {"n": 3, "r": "high"}, "<>")


class TestCallsAndOwners(SayTest):
    def test_binds_in_one_another(self):
        house = a_german_house()
        house.declare("k", [("a", "count"), ("b", "count")])
        house.declare("l", [("b", "count"), ("a", "count")])
        house.declare("m", [("x", "count"), ("y", "count")])
        put(house, "de", "k", "{@l a=a b=b} {@l a=b b=a} {@l a=a b=a}")
        put(house, "de", "l", "({a}{@m x=b y=a})")
        put(house, "de", "m", "-{x}-{y}")
        self.assert_said(house, "de", "k", {"a": 1, "b": 2}, "(1-2-1) (2-1-2) (1-1-1)")
        self.assertEqual(pieces(house, "de", "k", {"a": 1, "b": 2})[:6], [
            ("de", "l", "", "("), ("de", "l", "a", "1"), ("de", "m", "", "-"), ("de", "m", "x", "2"), ("de", "m", "", "-"),
            ("de", "m", "y", "1")])

    def test_all_goes_by_the_owner(self):
        house = a_german_house()
        house.declare("k", [("n", "count"), ("t", "thing"), ("l", "list"), ("d", "day")])
        put(house, "en", "k", "{#n few[few] else[{n}]} {t} {l} {d}")
        values = {"n": 1000, "t": "cat", "l": ["cat", "dog"], "d": 59}
        self.assert_said(house, "de", "k", values, "1,000 cat cat and dog 2/29/0")
        self.assert_said(house, "de", "k", {"n": 3, "t": "dog", "l": [], "d": 0}, "few dog nothing 1/1/0")
        put(house, "de", "k", "{#n one[] else[{n}]} {t} {l} {d}")
        self.assert_said(house, "de", "k", values, "1.000 Katze Katze und dog 29. 2. 0")
        self.assertEqual(pieces(house, "de", "k", {"n": 1, "t": "dog", "l": [], "d": 0})[1], ("de", "k", "t", "dog"))

    def test_a_called_message_is_asked_in_the_owner(self):
        house = a_german_house()
        house.declare("k", [])
        house.declare("l", [])
        put(house, "en", "k", "en {@l}")
        put(house, "en", "l", "en l")
        put(house, "de", "l", "de l")
        self.assert_said(house, "de", "k", {}, "en en l")
        house.drop("en", "l")
        self.assert_said(house, "de", "k", {}, "en de l")
        self.assertEqual(pieces(house, "de", "k", {}), [("en", "k", "", "en "), ("de", "l", "", "de l")])

    def test_a_message_marked_whole(self):
        house = a_german_house()
        house.declare("w", [], whole=True)
        house.declare("l", [])
        put(house, "de", "w", "de {@l}")
        put(house, "en", "w", "en {@l}")
        put(house, "en", "l", "en l")
        self.assert_said(house, "de", "w", {}, "en en l")
        put(house, "de", "l", "de l")
        self.assert_said(house, "de", "w", {}, "de de l")

    def test_a_whole_message_that_is_called(self):
        house = a_german_house()
        house.declare("k", [])
        house.declare("w", [], whole=True)
        house.declare("l", [])
        put(house, "de", "k", "k {@w}")
        put(house, "de", "w", "de {@l}")
        put(house, "en", "w", "en")
        self.assert_said(house, "de", "k", {}, "k en")
        put(house, "de", "l", "l")
        self.assert_said(house, "de", "k", {}, "k de l")


class TestRefusals(SayTest):
    def house(self):
        house = a_german_house()
        house.declare("k", [("n", "count"), ("t", "thing")])
        house.declare("bare", [])
        return house

    def test_no_tongue_and_no_message(self):
        house = self.house()
        good = {"n": 1, "t": "cat"}
        put(house, "de", "k", "x")
        self.assert_refused(NoTongue, house, "yy", "k", good)
        self.assert_refused(NoTongue, house, "yy", "nokey", {})
        self.assert_refused(NoTongue, house, "yy", "k", {})
        self.assert_refused(NoMessage, house, "de", "nokey", {})
        self.assert_refused(NoMessage, house, "de", "nokey", good)
        self.assert_refused(NoMessage, house, "de", "bare", {})
        self.assert_refused(NoMessage, house, "xx", "k", good)
        self.assert_refused(NoMessage, house, "xx", "k", {"n": -1})

    def test_a_whole_message_without_an_owner(self):
        house = self.house()
        house.declare("w", [], whole=True)
        put(house, "de", "w", "{@bare}")
        self.assert_refused(NoMessage, house, "de", "w", {})
        self.assert_refused(NoMessage, house, "de", "w", {"x": 1})

    def test_no_value(self):
        house = self.house()
        put(house, "de", "k", "{@bare}{#n x[]}{~t x[]}")
        for values in ({}, {"n": 1}, {"t": "cat"}, {"n": 1, "t": "cat", "x": 1}, {"n": 1, "x": "cat"}, {"n": -1, "t": "cat"},
                       {"n": GREAT, "t": "cat"}, {"n": True, "t": "cat"}, {"n": "1", "t": "cat"}, {"n": None, "t": "cat"},
                       {"n": 1, "t": "cow"}, {"n": 1, "t": None}, {"n": 1, "t": ["cat"]}, {"n": [], "t": "cat"},
                       {"n": 1, "t": "cat", "": 0}):
            self.assert_refused(NoValue, house, "de", "k", values)

    def test_no_value_of_each_kind(self):
        for kind, bad in (("number", GREAT), ("number", False), ("list", ["cat"] * 9), ("list", ["cow"]), ("list", "cat"),
                          ("day", -1), ("day", GREAT), ("rank", "cat"), ("rank", 0)):
            house = a_german_house()
            house.declare("k", [("g", kind)])
            put(house, "de", "k", "x")
            self.assert_refused(NoValue, house, "de", "k", {"g": bad})

    def test_a_call_without_an_owner(self):
        house = self.house()
        put(house, "de", "k", "{#n one[{@bare}] else[ok]}")
        self.assert_refused(NoMessage, house, "de", "k", {"n": 1, "t": "cat"})
        self.assert_said(house, "de", "k", {"n": 2, "t": "cat"}, "ok")

    def test_no_thing(self):
        house = self.house()
        put(house, "xx", "k", "{#n one[{t}] =2[{~t m[]}] =3[{~t else[]}] else[ok]}")
        for n in (1, 2, 3):
            self.assert_refused(NoThing, house, "xx", "k", {"n": n, "t": "cat"})
        self.assert_said(house, "xx", "k", {"n": 4, "t": "cat"}, "ok")
        house.declare("l", [("l", "list")])
        put(house, "xx", "l", "{#l =2[two] else[{l}]}")
        self.assert_said(house, "xx", "l", {"l": []}, "nothing")
        self.assert_said(house, "xx", "l", {"l": ["cat", "dog"]}, "two")
        self.assert_refused(NoThing, house, "xx", "l", {"l": ["cat"]})

    def test_lacking(self):
        house = self.house()
        house.declare("l", [("m", "count"), ("u", "thing")])
        put(house, "de", "k", "x{#n one[{~t m[] n[]}] =0[{@l m=n u=t}]}")
        put(house, "en", "l", "a{~u f[] m[y{#m one[]}]}")
        error = self.assert_refused(Lacking, house, "de", "k", {"n": 5, "t": "cat"})
        self.assertEqual((error.tongue, error.key, error.place), ("de", "k", (1,)))
        error = self.assert_refused(Lacking, house, "de", "k", {"n": 1, "t": "cat"})
        self.assertEqual((error.tongue, error.key, error.place), ("de", "k", (1, 0, 0)))
        error = self.assert_refused(Lacking, house, "de", "k", {"n": 0, "t": "dog"})
        self.assertEqual((error.tongue, error.key, error.place), ("en", "l", (1, 1, 1)))
        self.assert_said(house, "de", "k", {"n": 1, "t": "dog"}, "x")

    def test_lacking_of_ranks(self):
        house = a_german_house()
        house.declare("k", [("r", "rank")])
        put(house, "de", "k", "{^r low[]}")
        error = self.assert_refused(Lacking, house, "de", "k", {"r": "high"})
        self.assertEqual((error.tongue, error.key, error.place), ("de", "k", (0,)))

    def test_as_one_comes_to_it(self):
        house = self.house()
        put(house, "xx", "k", "{#n =0[] one[{t}{#n =0[]}] =2[{#n =0[]}{t}] =3[{@bare}{t}] =4[{t}{@bare}]}")
        for n, error_class in ((1, NoThing), (2, Lacking), (3, NoMessage), (4, NoThing), (5, Lacking)):
            self.assert_refused(error_class, house, "xx", "k", {"n": n, "t": "cat"})


class TestTooGreat(SayTest):
    def house(self, pieces_of, gaps=(), tongues=("de",)):
        house = a_house(tongues)
        for key in sorted(set([key for tongue, key in pieces_of] + ["z"])):
            house.declare(key, list(gaps))
        for (tongue, key), text in pieces_of.items():
            put(house, tongue, key, text)
        return house

    def test_two_hundred_parts(self):
        house = self.house({("de", "k"): "{@l}" * 5, ("de", "l"): "{@m}" * 19 + "x{@m}" * 9 + "x", ("de", "m"): ""})
        self.assertEqual(say(house, "de", "l", {}), "x" * 10)
        put(house, "de", "k", "{@l}" * 5 + "x{@m}" * 2)
        self.assert_said(house, "de", "k", {}, "x" * 50 + "xx")
        put(house, "de", "k", "{@l}" * 5 + "x{@m}" * 2 + "x")
        self.assert_said(house, "de", "k", {}, "x" * 53)
        put(house, "de", "k", "{@l}" * 5 + "x{@m}" * 2 + "x{@m}")
        self.assert_refused(TooGreat, house, "de", "k", {})

    def parts_house(self, more):
        """A message of which one goes through 199 parts and then those of more."""
        house = a_house([a_tongue("de", ["en"]), "en"])
        for key in ("k", "l", "n", "z"):
            house.declare(key, [("c", "count"), ("t", "thing")])
        bind = " c=c t=t"
        put(house, "de", "n", "")
        put(house, "de", "l", ("{@n" + bind + "}") * 38)
        put(house, "de", "k", ("{@l" + bind + "}") * 5 + ("{@n" + bind + "}") * 4 + more.replace("B", bind))
        return house

    def test_the_two_hundredth_part_and_the_next(self):
        values = {"c": 1, "t": "cat"}
        self.assert_said(self.parts_house("x"), "de", "k", values, "x")
        self.assert_said(self.parts_house("{c}"), "de", "k", values, "1")
        self.assert_said(self.parts_house("{@nB}"), "de", "k", values, "")
        self.assert_said(self.parts_house("{#c one[]}"), "de", "k", values, "")
        self.assert_refused(TooGreat, self.parts_house("x{c}"), "de", "k", values)
        self.assert_refused(TooGreat, self.parts_house("{#c one[x]}"), "de", "k", values)
        self.assert_refused(TooGreat, self.parts_house("{#c one[{#c one[]}]}"), "de", "k", values)

    def test_too_great_comes_first(self):
        values = {"c": 1, "t": "cat"}
        self.assert_refused(NoThing, self.parts_house("{t}"), "de", "k", values)
        self.assert_refused(Lacking, self.parts_house("{#c =0[]}"), "de", "k", values)
        self.assert_refused(NoMessage, self.parts_house("{@zB}"), "de", "k", values)
        self.assert_refused(NoThing, self.parts_house("{~t m[]}"), "de", "k", values)
        for more in ("x{t}", "x{#c =0[]}", "x{@zB}", "x{~t m[]}", "x{@nB}"):
            self.assert_refused(TooGreat, self.parts_house(more), "de", "k", values)

    def test_eight_messages(self):
        keys = list("abcdefghi")
        house = self.house({("de", key): key + "{@" + (keys + ["z"])[k + 1] + "}" for k, key in enumerate(keys)})
        put(house, "de", "i", "i")
        self.assert_said(house, "de", "b", {}, "bcdefghi")
        self.assert_refused(TooGreat, house, "de", "a", {})
        put(house, "de", "h", "h")
        self.assert_said(house, "de", "a", {}, "abcdefgh")

    def test_a_call_without_an_owner_ahead_of_standing_in_it(self):
        keys = list("abcdefgh")
        house = self.house({("de", key): "{@" + (keys + ["z"])[k + 1] + "}" for k, key in enumerate(keys)})
        self.assert_refused(NoMessage, house, "de", "a", {})
        put(house, "de", "z", "")
        self.assert_refused(TooGreat, house, "de", "a", {})
        self.assert_said(house, "de", "b", {}, "")

    def test_rings(self):
        house = self.house({("de", "k"): "x{@k}"})
        self.assert_refused(TooGreat, house, "de", "k", {})
        house = self.house({("de", "k"): "{#n =0[{@k n=n}] else[end]}"}, [("n", "count")])
        self.assert_said(house, "de", "k", {"n": 1}, "end")
        self.assert_refused(TooGreat, house, "de", "k", {"n": 0})

    def test_only_parts_that_one_goes_through_are_counted(self):
        house = self.house({("de", "k"): "{@l n=n}" * 25, ("de", "l"): "{#n =0[" + "{n}" * 30 + "] else[xy{n}{n}{n}]}"},
                           [("n", "count")])
        self.assert_said(house, "de", "k", {"n": 1}, "xy111" * 25)
        self.assert_refused(TooGreat, house, "de", "k", {"n": 0})


class Refused(Exception):
    pass


class TestRandom(SayTest):
    """Against a walk written out straight from the words of [24]."""

    def walk(self, house, name, key, values, stand, gone, rows):
        if stand > 8:
            raise Refused("TooGreat")
        self.walk_parts(house, name, key, house.piece(name, key), (), values, stand, gone, rows)

    def walk_parts(self, house, name, key, pattern, ahead, values, stand, gone, rows):
        for k, part in enumerate(pattern):
            gone.append(part)
            if len(gone) > 200:
                raise Refused("TooGreat")
            if part[0] == "text":
                rows.append((name, key, "", part[1]))
            elif part[0] == "gap":
                kind = dict(house.gaps(key))[part[1]]
                things = {"thing": [values[part[1]]], "list": values[part[1]]}.get(kind, [])
                if [thing for thing in things if word_of(house, name, thing) is None]:
                    raise Refused("NoThing")
                rows.append((name, key, part[1], value_text(house, name, kind, values[part[1]])))
            elif part[0] == "say":
                called = owner(house, name, part[1])
                if called is None:
                    raise Refused("NoMessage")
                self.walk(house, called, part[1], {a: values[b] for a, b in part[2]}, stand + 1, gone, rows)
            else:
                number = self.arm(house, name, part, values[part[1]])
                if number is None:
                    raise Refused("Lacking", name, key, ahead + (k,))
                self.walk_parts(house, name, key, part[2][number][1], ahead + (k, number), values, stand, gone, rows)

    def arm(self, house, name, part, value):
        words = [value]
        if part[0] == "many":
            number = len(value) if isinstance(value, list) else value
            words = ["=" + str(number), way_of(house.tongue_named(name).rules, number)]
        if part[0] == "kind":
            if word_of(house, name, value) is None:
                raise Refused("NoThing")
            words = [word_of(house, name, value)[2]]
        for word in words + ["else"]:
            for number, (each, within) in enumerate(part[2]):
                if each == word:
                    return number
        return None

    def test_random_houses(self):
        rng = random.Random(91)
        met = {}
        for k in range(250):
            house = some_house(rng)
            before = copy.deepcopy(told_of(house)[5:])
            for tongue in house.tongues():
                for key in house.messages():
                    if owner(house, tongue, key) is not None:
                        for j in range(4):
                            met[self.check(house, tongue, key, some_values(rng, house, key))] = True
            self.assertEqual(told_of(house)[5:], before)
        self.assertEqual(sorted(met), ["Lacking", "NoMessage", "NoThing", "TooGreat", "said"])

    def check(self, house, tongue, key, values):
        rows = []
        try:
            self.walk(house, owner(house, tongue, key), key, values, 1, [], rows)
        except Refused as refused:
            with self.assertRaises(SayError) as caught:
                say(house, tongue, key, values)
            self.assertEqual(type(caught.exception).__name__, refused.args[0])
            if refused.args[0] == "Lacking":
                error = caught.exception
                self.assertEqual((error.tongue, error.key, error.place), refused.args[1:])
            with self.assertRaises(type(caught.exception)):
                pieces(house, tongue, key, values)
            return refused.args[0]
        self.assertEqual(pieces(house, tongue, key, values), rows)
        self.assert_said(house, tongue, key, values, "".join([row[3] for row in rows]))
        return "said"

    def test_messages_without_flaws_are_never_refused(self):
        rng = random.Random(92)
        said = 0
        for k in range(150):
            house = some_house(rng, whole=rng.random() < 0.7)
            for tongue in house.tongues():
                for key in house.messages():
                    if flaws(house, tongue, key) == []:
                        name = owner(house, tongue, key)
                        rows = [row[2][1] for row in arms(house, name, key) if row[2][0] == "taken"]
                        for values in rows + [some_values(rng, house, key) for j in range(5)]:
                            text = say(house, tongue, key, values)
                            self.assertEqual("".join([row[3] for row in pieces(house, tongue, key, values)]), text)
                            said = said + 1
        self.assertGreater(said, 2000)


if __name__ == "__main__":
    unittest.main()
