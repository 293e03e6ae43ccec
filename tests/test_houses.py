"""Tongues and houses, of saywell.tongues and saywell.houses: point [17]."""

import copy
import itertools
import unittest

from saywell.errors import NoMessage, NoThing, NoTongue, NoValue, SayError
from saywell.houses import House
from saywell.patterns import read, shown
from saywell.tongues import Tongue
from helper import COMMON, ENGLISH, a_house, a_tongue, put, told_of

KINDS = ["count", "number", "thing", "list", "day", "rank"]


class HouseTest(unittest.TestCase):
    def assert_refused(self, error_class, house, call, *handed):
        """That a call is refused with this very class, and leaves all as it was."""
        before = copy.deepcopy(told_of(house)[:4] + told_of(house)[5:])
        with self.subTest(handed=handed):
            with self.assertRaises(SayError) as caught:
                call(*handed)
            self.assertEqual(type(caught.exception), error_class)
            self.assertEqual(told_of(house)[:4] + told_of(house)[5:], before)


class TestTongue(unittest.TestCase):
    def test_fields(self):
        handed = ("de", ["en"], [("other", None)], ("", "-", "-", "-"), ENGLISH, COMMON, ("dmy", ".", None))
        tongue = Tongue(*handed)
        self.assertEqual((tongue.name, tongue.falls, tongue.rules, tongue.joiners, tongue.figures, tongue.calendar,
                          tongue.dayform), handed)

    def test_fields_by_their_names(self):
        tongue = Tongue(name="de", falls=[], rules=[("x", None)], joiners=("a", "b", "c", "d"), figures=ENGLISH,
                        calendar=COMMON, dayform=("ymd", "-", None))
        self.assertEqual(tongue.joiners, ("a", "b", "c", "d"))
        self.assertEqual(tongue.dayform, ("ymd", "-", None))


class TestTongues(HouseTest):
    def test_none_at_first(self):
        self.assertEqual(a_house().tongues(), [])

    def test_added_and_told_sorted(self):
        house = a_house()
        added = {name: a_tongue(name) for name in ("de", "en", "af", "zu", "b", "c", "d", "a")}
        for tongue in added.values():
            house.add(tongue)
        self.assertEqual(house.tongues(), ["a", "af", "b", "c", "d", "de", "en", "zu"])
        for name, tongue in added.items():
            self.assertEqual(house.tongue_named(name), tongue)

    def test_a_name_that_is_there(self):
        house = a_house(["de"])
        first = house.tongue_named("de")
        self.assert_refused(NoTongue, house, house.add, a_tongue("de", falls=["en"]))
        self.assertEqual(house.tongue_named("de"), first)

    def test_no_such_tongue(self):
        house = a_house(["de"])
        for name in ("en", "d", "dee"):
            self.assert_refused(NoTongue, house, house.tongue_named, name)

    def test_two_houses_know_nothing_of_one_another(self):
        one = a_house(["de"])
        other = a_house(["en"])
        one.declare("k", [])
        put(one, "de", "k", "x")
        self.assertEqual(other.tongues(), ["en"])
        self.assertEqual(other.messages(), [])
        self.assertIsNone(other.piece("de", "k"))


class TestLists(HouseTest):
    def test_in_their_order(self):
        house = House(["n", "m", "f"], ["high", "low"], ["dog", "cat", "ant"])
        self.assertEqual(house.kinds(), ["n", "m", "f"])
        self.assertEqual(house.ranks(), ["high", "low"])
        self.assertEqual(house.things(), ["dog", "cat", "ant"])

    def test_lists_handed_in_and_told_are_their_own(self):
        lists = [["m", "f"], ["low", "high"], ["cat", "dog"]]
        house = House(*lists)
        for handed in lists:
            handed.reverse()
            handed.append("x")
        for told in (house.kinds(), house.ranks(), house.things()):
            told.clear()
        self.assertEqual((house.kinds(), house.ranks(), house.things()), (["m", "f"], ["low", "high"], ["cat", "dog"]))
        house.add(a_tongue("de"))
        house.tongues().clear()
        house.messages().append("x")
        self.assertEqual(house.tongues(), ["de"])
        self.assertEqual(house.messages(), [])


class TestWords(HouseTest):
    def test_a_text_and_its_kind(self):
        house = a_house(["de", "en"])
        house.word("de", "cat", "Katze", "f")
        self.assertEqual(house.own_word("de", "cat"), ("Katze", "f"))
        self.assertIsNone(house.own_word("en", "cat"))
        self.assertIsNone(house.own_word("de", "dog"))

    def test_a_later_text_takes_the_earlier_ones_place(self):
        house = a_house(["de"])
        house.word("de", "cat", "Katze", "f")
        house.word("de", "cat", "Kater", "m")
        self.assertEqual(house.own_word("de", "cat"), ("Kater", "m"))

    def test_names_that_are_none(self):
        house = a_house(["de"])
        house.word("de", "cat", "Katze", "f")
        for tongue, thing in (("en", "cat"), ("de", "cow"), ("x", "y"), ("de", "ca")):
            self.assertIsNone(house.own_word(tongue, thing))

    def test_bounds_of_texts(self):
        house = a_house(["de"])
        for text in ("a", "Z", "aZ", "a" * 12, "Katze"):
            house.word("de", "cat", text, "m")
            self.assertEqual(house.own_word("de", "cat"), (text, "m"))
        for text in ("", "a" * 13, "a b", " a", "a1", "1", "a-b", "a.", "{n}", "\xe9", "a\n"):
            self.assert_refused(NoValue, house, house.word, "de", "cat", text, "m")
        for kind in ("n", "", "M", "mm", "else"):
            self.assert_refused(NoValue, house, house.word, "de", "cat", "Katze", kind)

    def test_refusals_in_their_order(self):
        house = a_house(["de"])
        self.assert_refused(NoTongue, house, house.word, "en", "cat", "Katze", "f")
        self.assert_refused(NoTongue, house, house.word, "en", "cow", "", "x")
        self.assert_refused(NoThing, house, house.word, "de", "cow", "Katze", "f")
        self.assert_refused(NoThing, house, house.word, "de", "cow", "", "x")
        self.assert_refused(NoValue, house, house.word, "de", "cat", "", "f")


class TestDeclared(HouseTest):
    def test_gaps_as_they_were_declared(self):
        house = a_house()
        house.declare("z", [("n", "count"), ("a", "thing")])
        house.declare("a", [], True)
        house.declare("b", [("x", "day")], whole=True)
        self.assertEqual(house.messages(), ["a", "b", "z"])
        self.assertEqual(house.gaps("z"), [("n", "count"), ("a", "thing")])
        self.assertEqual(house.gaps("a"), [])
        self.assertIs(house.is_whole("a"), True)
        self.assertIs(house.is_whole("b"), True)
        self.assertIs(house.is_whole("z"), False)

    def test_declared_already(self):
        house = a_house()
        house.declare("k", [("n", "count")])
        self.assert_refused(NoMessage, house, house.declare, "k", [("m", "day")], True)
        self.assert_refused(NoMessage, house, house.declare, "k", [("n", "count")])

    def test_not_declared(self):
        house = a_house()
        house.declare("k", [])
        for key in ("a", "kk", "else"):
            self.assert_refused(NoMessage, house, house.gaps, key)
            self.assert_refused(NoMessage, house, house.is_whole, key)

    def test_gaps_handed_in_and_told_are_their_own(self):
        house = a_house()
        gaps = [("n", "count"), ("t", "thing")]
        house.declare("k", gaps)
        gaps.pop()
        house.gaps("k").clear()
        self.assertEqual(house.gaps("k"), [("n", "count"), ("t", "thing")])


class TestPieces(HouseTest):
    def house(self):
        house = a_house(["de", "en"])
        house.declare("k", [("n", "count"), ("t", "thing")])
        house.declare("other", [("a", "count")])
        return house

    def test_put_and_told(self):
        house = self.house()
        self.assertIsNone(house.piece("de", "k"))
        put(house, "de", "k", "{n} {~t m[x] f[y]}{@other a=n}")
        self.assertEqual(shown(house.piece("de", "k")), "{n} {~t m[x] f[y]}{@other a=n}")
        self.assertIsNone(house.piece("en", "k"))
        self.assertIsNone(house.piece("de", "other"))
        put(house, "de", "other", "")
        self.assertEqual(house.piece("de", "other"), [])

    def test_a_later_piece_takes_the_earlier_ones_place(self):
        house = self.house()
        put(house, "de", "k", "one")
        put(house, "de", "k", "two")
        self.assertEqual(house.piece("de", "k"), [("text", "two")])
        self.assert_refused(NoValue, house, house.put, "de", "k", read("{x}"))
        self.assertEqual(house.piece("de", "k"), [("text", "two")])

    def test_names_that_are_none(self):
        house = self.house()
        put(house, "de", "k", "one")
        for tongue, key in (("xx", "k"), ("de", "xx"), ("xx", "yy")):
            self.assertIsNone(house.piece(tongue, key))

    def test_drop(self):
        house = self.house()
        put(house, "de", "k", "one")
        put(house, "en", "k", "two")
        house.drop("de", "k")
        self.assertIsNone(house.piece("de", "k"))
        self.assertEqual(house.piece("en", "k"), [("text", "two")])
        before = copy.deepcopy(told_of(house)[5:])
        house.drop("de", "k")
        house.drop("de", "other")
        house.drop("de", "nokey")
        self.assertEqual(told_of(house)[5:], before)
        self.assert_refused(NoTongue, house, house.drop, "xx", "k")
        self.assert_refused(NoTongue, house, house.drop, "xx", "nokey")

    def test_patterns_handed_in_and_told_are_their_own(self):
        house = self.house()
        text = "{~t m[x{@other a=n}] f[y]}"
        pattern = read(text)
        kept = copy.deepcopy(pattern)
        house.put("de", "k", pattern)
        self.assertEqual(pattern, kept)
        pattern[0][2][0][1][1][2].clear()
        pattern[0][2][1][1].append(("gap", "zzz"))
        pattern.append(("text", "!"))
        self.assertEqual(shown(house.piece("de", "k")), text)
        told = house.piece("de", "k")
        told[0][2][0][1][1][2].clear()
        told[0][2].pop()
        told.clear()
        self.assertEqual(shown(house.piece("de", "k")), text)
        earlier = house.piece("de", "k")
        house.drop("de", "k")
        self.assertEqual(shown(earlier), text)

    def test_refusals_in_their_order(self):
        house = self.house()
        self.assert_refused(NoTongue, house, house.put, "xx", "nokey", read("{zzz}"))
        self.assert_refused(NoTongue, house, house.put, "xx", "k", read("x"))
        self.assert_refused(NoMessage, house, house.put, "de", "nokey", read("x"))
        self.assert_refused(NoMessage, house, house.put, "de", "nokey", read("{zzz}"))
        self.assert_refused(NoMessage, house, house.put, "de", "k", read("{zzz}{@nokey}"))
        self.assert_refused(NoMessage, house, house.put, "de", "k", read("{@nokey a=zzz}"))
        self.assert_refused(NoMessage, house, house.put, "de", "k", read("{@other a=t}{#n one[{@nokey}]}"))
        self.assert_refused(NoMessage, house, house.put, "de", "k", read("{#zzz one[x] else[{~t m[{@nokey}]}]}"))
        self.assert_refused(NoValue, house, house.put, "de", "k", read("{zzz}"))


class TestUses(HouseTest):
    def house(self):
        house = a_house(["de"])
        house.declare("k", [(kind, kind) for kind in KINDS[:4]])
        house.declare("kk", [(kind, kind) for kind in KINDS[2:]])
        for kind in KINDS:
            house.declare("one" + kind[:3], [("their", kind)])
        house.declare("two", [("a", "count"), ("b", "count")])
        house.declare("none", [])
        return house

    def uses(self, text, fits):
        for key, kinds in (("k", KINDS[:4]), ("kk", KINDS[2:])):
            for kind in kinds:
                for around in ("U", "x{#list one[y] else[U]}", "{~thing m[] f[U]}"):
                    house = self.house()
                    used = around.replace("U", text.replace("G", kind))
                    if kind in fits:
                        put(house, "de", key, used)
                        self.assertEqual(shown(house.piece("de", key)), used)
                    else:
                        self.assert_refused(NoValue, house, house.put, "de", key, read(used))
                        self.assertIsNone(house.piece("de", key))

    def test_shown(self):
        self.uses("{G}", ["count", "number", "thing", "list", "day"])

    def test_many(self):
        self.uses("{#G one[] =0[]}", ["count", "list"])

    def test_kind(self):
        self.uses("{~G m[] else[]}", ["thing"])

    def test_rank(self):
        self.uses("{^G low[] else[]}", ["rank"])

    def test_bound_to_each_kind(self):
        for kind in KINDS:
            self.uses("{@one" + kind[:3] + " their=G}", [kind])

    def test_gaps_that_are_not_declared(self):
        house = self.house()
        for text in ("{x}", "{counts}", "{#x one[]}", "{~x m[]}", "{^x low[]}", "{#count one[{x}]}", "{@onecou their=x}",
                     "{@two a=count b=x}", "{rank}", "{day}"):
            self.assert_refused(NoValue, house, house.put, "de", "k", read(text))

    def test_calls(self):
        house = self.house()
        for text in ("{@two a=count b=count}", "{@two b=count a=count}", "{@none}", "{@onecou their=count}"):
            put(house, "de", "k", text)
            self.assertEqual(shown(house.piece("de", "k")), text)
        for text in ("{@two}", "{@two a=count}", "{@two b=count}", "{@two a=count c=count}", "{@none a=count}",
                     "{@two a=count b=count c=count}", "{@two a=count b=number}", "{@two a=count b=list}",
                     "{@onecou count=count}", "{@onecou}"):
            self.assert_refused(NoValue, house, house.put, "de", "k", read(text))

    def test_a_gap_bound_twice(self):
        house = self.house()
        for binds in ([("their", "count"), ("their", "count")],):
            self.assert_refused(NoValue, house, house.put, "de", "k", [("say", "onecou", binds)])
        for binds in ([("a", "count"), ("a", "count")], [("a", "count"), ("b", "count"), ("a", "count")],
                      [("a", "count"), ("b", "count"), ("b", "count")]):
            self.assert_refused(NoValue, house, house.put, "de", "k", [("say", "two", binds)])

    def test_gaps_bound_in_any_order(self):
        house = self.house()
        house.declare("turned", [("z", "count"), ("a", "list"), ("m", "count")])
        for text in ("{@turned z=count a=list m=count}", "{@turned m=count z=count a=list}"):
            put(house, "de", "k", text)
            self.assertEqual(shown(house.piece("de", "k")), text)
        for text in ("{@turned z=list a=count m=count}", "{@turned a=list m=count}"):
            self.assert_refused(NoValue, house, house.put, "de", "k", read(text))

    def test_a_gap_bound_twice_and_to_a_gap_that_is_not_declared(self):
        house = self.house()
        for binds in ([("a", "count"), ("a", "x"), ("b", "count")], [("a", "x"), ("a", "y")]):
            self.assert_refused(NoValue, house, house.put, "de", "k", [("say", "two", binds)])

    def test_a_call_of_itself(self):
        house = self.house()
        put(house, "de", "two", "{@two a=b b=a}")
        put(house, "de", "none", "{@none}")
        self.assertEqual(shown(house.piece("de", "none")), "{@none}")
        self.assert_refused(NoValue, house, house.put, "de", "two", read("{@two a=b}"))

    def test_all_pairs_of_kinds(self):
        for theirs, mine in itertools.product(KINDS, KINDS):
            house = a_house(["de"])
            house.declare("t", [("a", theirs)])
            house.declare("m", [("b", mine)])
            if theirs == mine:
                put(house, "de", "m", "{@t a=b}")
            else:
                self.assert_refused(NoValue, house, house.put, "de", "m", read("{@t a=b}"))


if __name__ == "__main__":
    unittest.main()
