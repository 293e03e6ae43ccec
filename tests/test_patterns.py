"""Patterns, their texts and places, of saywell.patterns: points [5] to [7]."""

import copy
import random
import re
import unittest

from saywell import errors
from saywell.errors import NoPattern, NoPlace
from saywell.patterns import calls_of, gaps_of, part_at, read, shown, size

EXAMPLE = "{#n =0[no tile] one[a tile] else[{n} tiles]}"
SIGNS = [chr(number) for number in range(32, 127)]
PLAIN = [sign for sign in SIGNS if sign not in "{}[]%"]
WORD = re.compile(r"[a-z]{1,8}\Z")
NAME = re.compile(r"=(0|[1-9][0-9]{0,58})\Z")


def is_a_word(thing):
    return isinstance(thing, str) and WORD.match(thing) is not None and thing != "else"


def depth(pattern):
    return max([0] + [1 + max([depth(within) for name, within in part[2]])
                      for part in pattern if part[0] in ("many", "kind", "rank")])


def count(pattern):
    return sum([1 + (sum([count(within) for name, within in part[2]]) if part[0] in ("many", "kind", "rank") else 0)
                for part in pattern])


def has_form(pattern):
    """Whether a thing is built just as [5] tells, but for the bounds over the whole pattern."""
    if not isinstance(pattern, list):
        return False
    texts = [isinstance(part, tuple) and len(part) > 0 and part[0] == "text" for part in pattern]
    if any([texts[k] and texts[k + 1] for k in range(len(texts) - 1)]):
        return False
    return all([part_has_form(part) for part in pattern])


def part_has_form(part):
    if not isinstance(part, tuple):
        return False
    if part[0] == "text":
        return len(part) == 2 and isinstance(part[1], str) and part[1] != "" and all([s in PLAIN for s in part[1]])
    if part[0] == "gap":
        return len(part) == 2 and is_a_word(part[1])
    if len(part) != 3 or not is_a_word(part[1]) or not isinstance(part[2], list):
        return False
    if any([not isinstance(pair, tuple) or len(pair) != 2 for pair in part[2]]):
        return False
    firsts = [pair[0] for pair in part[2]]
    if len(set(firsts)) != len(firsts):
        return False
    if part[0] == "say":
        return len(part[2]) <= 4 and all([is_a_word(theirs) and is_a_word(mine) for theirs, mine in part[2]])
    if part[0] not in ("many", "kind", "rank") or not 1 <= len(part[2]) <= 8:
        return False
    for name, within in part[2]:
        fits = is_a_word(name) or name == "else" or (part[0] == "many" and NAME.match(name) is not None)
        if not fits or not has_form(within):
            return False
    return True


def is_pattern(thing):
    return has_form(thing) and count(thing) <= 40 and depth(thing) <= 4 and len(shown(thing)) <= 1000


def some_word(rng):
    word = "".join([rng.choice("abelsz") for k in range(rng.choice([1, 1, 2, 4, 8]))])
    return "x" if word == "else" else word


def some_pattern(rng, deep, most):
    pattern = []
    for k in range(rng.randrange(most + 1)):
        part = some_part(rng, deep)
        if not (pattern and pattern[-1][0] == "text" and part[0] == "text"):
            pattern.append(part)
    return pattern


def some_part(rng, deep):
    how = rng.choice(["text", "gap", "say", "many", "kind", "rank"] if deep < 4 else ["text", "gap", "say"])
    if how == "text":
        return ("text", "".join([rng.choice(PLAIN) for k in range(rng.randrange(1, 9))]))
    if how == "gap":
        return ("gap", some_word(rng))
    if how == "say":
        theirs = list(dict.fromkeys([some_word(rng) for k in range(rng.randrange(5))]))
        return ("say", some_word(rng), [(word, some_word(rng)) for word in theirs])
    names = [some_word(rng) for k in range(rng.randrange(1, 5))] + rng.choice([[], ["else"]])
    if how == "many":
        names = names + rng.choice([[], ["=0"], ["=" + str(rng.randrange(10 ** 59)), "=7"]])
    names = list(dict.fromkeys(names))
    rng.shuffle(names)
    return (how, some_word(rng), [(name, some_pattern(rng, deep + 1, 2)) for name in names])


class PatternTest(unittest.TestCase):
    def assert_read(self, text, pattern):
        with self.subTest(text=text):
            self.assertEqual(read(text), pattern)
            self.assertEqual(shown(pattern), text)
            self.assertTrue(is_pattern(read(text)))

    def assert_refused(self, thing):
        with self.subTest(thing=thing):
            with self.assertRaises(errors.SayError) as caught:
                read(thing)
            self.assertEqual(type(caught.exception), NoPattern)


class TestReadAndShown(PatternTest):
    def test_the_example(self):
        self.assert_read(EXAMPLE, [("many", "n", [
            ("=0", [("text", "no tile")]),
            ("one", [("text", "a tile")]),
            ("else", [("gap", "n"), ("text", " tiles")]),
        ])])

    def test_the_empty_pattern(self):
        self.assert_read("", [])

    def test_texts(self):
        for text in ("a", " ", "  ", "Hello, world!", "=0", "#n", "@key", "~", "^x", "else", "a=b", "".join(PLAIN)):
            self.assert_read(text, [("text", text)])

    def test_gaps(self):
        self.assert_read("{n}", [("gap", "n")])
        self.assert_read("{abcdefgh}", [("gap", "abcdefgh")])
        self.assert_read("{a}{b}{a}", [("gap", "a"), ("gap", "b"), ("gap", "a")])
        self.assert_read(" {a} {b}", [("text", " "), ("gap", "a"), ("text", " "), ("gap", "b")])

    def test_the_three_choices(self):
        self.assert_read("{#n a[x]}", [("many", "n", [("a", [("text", "x")])])])
        self.assert_read("{~n a[x]}", [("kind", "n", [("a", [("text", "x")])])])
        self.assert_read("{^n a[x]}", [("rank", "n", [("a", [("text", "x")])])])

    def test_empty_arms(self):
        self.assert_read("{#n a[] =3[] else[]}", [("many", "n", [("a", []), ("=3", []), ("else", [])])])

    def test_arms_of_one_to_eight(self):
        for mark, how in (("#", "many"), ("~", "kind"), ("^", "rank")):
            for most in range(1, 9):
                names = list("abcdefgh")[:most]
                text = "{" + mark + "g " + " ".join([name + "[" + name + "]" for name in names]) + "}"
                self.assert_read(text, [(how, "g", [(name, [("text", name)]) for name in names])])

    def test_calls_of_none_to_four_binds(self):
        self.assert_read("{@key}", [("say", "key", [])])
        self.assert_read("{@key a=b}", [("say", "key", [("a", "b")])])
        self.assert_read("{@key a=b c=b}", [("say", "key", [("a", "b"), ("c", "b")])])
        self.assert_read("{@k a=a b=a c=a d=z}", [("say", "k", [("a", "a"), ("b", "a"), ("c", "a"), ("d", "z")])])

    def test_choices_four_deep(self):
        text = "{#a x[{~b y[{^c z[{#d w[deep]}]}]}]}"
        self.assert_read(text, [("many", "a", [("x", [("kind", "b", [("y", [("rank", "c", [("z", [
            ("many", "d", [("w", [("text", "deep")])])])])])])])])])

    def test_choices_side_by_side_in_an_arm(self):
        self.assert_read("{#a x[{#a x[]}{#a x[]}]}{@k}", [
            ("many", "a", [("x", [("many", "a", [("x", [])]), ("many", "a", [("x", [])])])]), ("say", "k", [])])

    def test_random_patterns_there_and_back(self):
        rng = random.Random(5)
        seen = 0
        while seen < 1500:
            pattern = some_pattern(rng, 0, 4)
            if is_pattern(pattern):
                seen = seen + 1
                handed = copy.deepcopy(pattern)
                self.assertEqual(read(shown(handed)), pattern)
                self.assertEqual(handed, pattern)


class TestRefused(PatternTest):
    def test_things_that_are_no_texts(self):
        for thing in (None, 0, 7, -1, True, False, 1.5, [], ["a"], [("text", "a")], (), ("text", "a"), {}, {"a": 1},
                      b"a", set(), object(), str):
            self.assert_refused(thing)

    def test_signs_that_are_not_plain(self):
        for sign in "%[]{}\n\t\x1f\x7f\xe9\u0663":
            self.assert_refused(sign)
            self.assert_refused("a" + sign + "b")
            self.assert_refused("{#n a[" + sign + "]}")
            self.assert_refused("{" + sign + "}")

    def test_gaps(self):
        for text in ("{}", "{ }", "{N}", "{n", "n}", "{n }", "{ n}", "{n1}", "{else}", "{abcdefghi}", "{{n}}", "{n}}",
                     "{[n]}", "{=n}", "{n=}"):
            self.assert_refused(text)

    def test_choices(self):
        for mark in "#~^":
            for inner in ("", "n", "n ", "n []", "n a", "n a[", "n a[x", "n a[x] ", "n  a[x]", "n a [x]", " n a[x]",
                          "n a[x]b[x]", "n a[x]  b[x]", "n a[x],b[x]", "a[x]", "n a[x]]", "n a[[x]]", "n A[x]",
                          "n abcdefghi[x]", "n a[x] a[y]", "n else[x] else[x]", "else a[x]", "N a[x]", "n n=a[x]",
                          "n =[x]", "n =-1[x]", "n = 1[x]", "n =00[x]", "n =01[x]", "n =1a[x]", "n ==1[x]"):
                self.assert_refused("{" + mark + inner + "}")
        self.assert_refused("{#n =1[x] =1[y]}")
        self.assert_refused("{#n a[x]")
        self.assert_refused("{! n a[x]}")

    def test_numbers_are_names_of_many_alone(self):
        self.assert_read("{#n =0[x]}", [("many", "n", [("=0", [("text", "x")])])])
        self.assert_refused("{~n =0[x]}")
        self.assert_refused("{^n =0[x]}")
        self.assert_refused("{~n a[] =0[x]}")

    def test_calls(self):
        for text in ("{@}", "{@ }", "{@key }", "{@ key}", "{@Key}", "{@else}", "{@abcdefghi}", "{@key a}", "{@key a=}",
                     "{@key =b}", "{@key a = b}", "{@key a=b }", "{@key  a=b}", "{@key a=b  c=d}", "{@key a=b,c=d}",
                     "{@key a=B}", "{@key A=b}", "{@key else=b}", "{@key a=else}", "{@key a=b a=c}", "{@key a=b a=b}",
                     "{@key a=b=c}", "{@key a=1}", "{@key a[b]}", "{@key", "{@key a=b"):
            self.assert_refused(text)


class TestBounds(PatternTest):
    def test_forty_parts(self):
        self.assert_read("{n}" * 40, [("gap", "n")] * 40)
        self.assert_refused("{n}" * 41)
        self.assert_refused("{n}" * 40 + "x")

    def test_forty_parts_with_those_of_arms(self):
        fits = "{#n a[" + "{n}" * 10 + "] b[" + "{n}" * 10 + "x]}" + "{n}" * 18
        self.assertEqual(size(read(fits)), 40)
        self.assert_refused(fits + "x")
        self.assert_refused(fits.replace("x]", "x{n}]"))

    def test_four_deep(self):
        text = "x"
        for deep in range(1, 8):
            text = "{#n a[" + text + "]}"
            if deep <= 4:
                self.assertEqual(shown(read(text)), text)
            else:
                self.assert_refused(text)

    def test_four_deep_in_a_later_arm(self):
        three = "{~n a[{~n a[{~n a[]}]}]}"
        self.assertEqual(shown(read("{^n a[] b[" + three + "]}")), "{^n a[] b[" + three + "]}")
        self.assert_refused("{^n a[] b[{^n a[" + three + "]}]}")

    def test_very_deep_texts(self):
        for deep in (50, 150, 165):
            self.assert_refused("{#n a[" * deep)
            self.assert_refused("{#n a[" * deep + "]}" * deep)

    def test_eight_arms(self):
        arms = " ".join([name + "[]" for name in "abcdefgh"])
        self.assertEqual(len(read("{#n " + arms + "}")[0][2]), 8)
        for mark in "#~^":
            self.assert_refused("{" + mark + "n " + arms + " else[]}")
            self.assert_refused("{" + mark + "n " + arms + " i[]}")

    def test_four_binds(self):
        self.assertEqual(len(read("{@k a=z b=z c=z d=z}")[0][2]), 4)
        self.assert_refused("{@k a=z b=z c=z d=z e=z}")

    def test_a_thousand_signs(self):
        self.assert_read("x" * 999, [("text", "x" * 999)])
        self.assert_read("x" * 1000, [("text", "x" * 1000)])
        self.assert_refused("x" * 1001)
        self.assertEqual(shown(read("{#n a[" + "x" * 992 + "]}")), "{#n a[" + "x" * 992 + "]}")
        self.assert_refused("{#n a[" + "x" * 993 + "]}")
        self.assert_refused("{" + "x" * 4000)

    def test_eight_letters(self):
        for text in ("{W}", "{#W a[]}", "{~n W[]}", "{^n W[]}", "{#n W[]}", "{@W}", "{@k W=a}", "{@k a=W}"):
            good = text.replace("W", "abcdefgh")
            self.assertEqual(shown(read(good)), good)
            self.assert_refused(text.replace("W", "abcdefghi"))
            self.assert_refused(text.replace("W", ""))

    def test_fifty_nine_figures(self):
        for figures in ("0", "1", "9" * 59, "1" + "0" * 58):
            text = "{#n =" + figures + "[x]}"
            self.assert_read(text, [("many", "n", [("=" + figures, [("text", "x")])])])
        for figures in ("00", "01", "1" + "0" * 59, "9" * 60, "0" + "9" * 58, "9" * 900):
            self.assert_refused("{#n =" + figures + "[x]}")

    def test_names_alike(self):
        for names in (("a", "a"), ("a", "b", "a"), ("=0", "=0"), ("else", "a", "else")):
            self.assert_refused("{#n " + " ".join([name + "[]" for name in names]) + "}")
        self.assertEqual(len(read("{#n =1[] =10[] =0[] a[] else[]}")[0][2]), 5)
        self.assert_refused("{@k a=b c=d a=e}")
        self.assertEqual(len(read("{@k a=z b=z}")[0][2]), 2)


class TestChangedTexts(PatternTest):
    """A sign put in, taken out or exchanged at any place."""

    TEXTS = [EXAMPLE, "{@key a=b c=d} x {~t m[der] else[{t}{^r low[du] b[]}]}", "a{n}", "{#n =10[a] else[]}"]

    def check(self, text):
        try:
            pattern = read(text)
        except errors.SayError as error:
            self.assertEqual(type(error), NoPattern, text)
            return
        self.assertTrue(is_pattern(pattern), text)
        self.assertEqual(shown(pattern), text)

    def test_put_in_and_exchanged(self):
        for text in self.TEXTS:
            for place in range(len(text) + 1):
                for sign in SIGNS + ["\n", "\xe9"]:
                    self.check(text[:place] + sign + text[place:])
                    self.check(text[:place] + sign + text[place + 1:])

    def test_taken_out(self):
        for text in self.TEXTS:
            for place in range(len(text)):
                for length in (1, 2, 3):
                    self.check(text[:place] + text[place + length:])

    def test_random_changes_of_random_patterns(self):
        rng = random.Random(17)
        for k in range(4000):
            text = list(shown(some_pattern(rng, 0, 3)))
            for j in range(rng.randrange(1, 3)):
                place = rng.randrange(len(text) + 1)
                text[place:place + rng.randrange(2)] = rng.choice(["", "{", "}", "[", "]", " ", "=", "a", "0", "@", "#"])
            self.check("".join(text))


class TestAsked(unittest.TestCase):
    TEXT = "a{n}{#n =0[x{b}] else[{~t m[{t} y{@key z=q}] f[]}{^r low[{@other a=n b=c}]}]}{@key}"

    def test_size(self):
        self.assertEqual(size([]), 0)
        self.assertEqual(size(read("abc")), 1)
        self.assertEqual(size(read(EXAMPLE)), 5)
        self.assertEqual(size(read(self.TEXT)), 12)
        self.assertEqual(size(read("{#n a[] b[]}")), 1)

    def test_gaps_of(self):
        self.assertEqual(gaps_of([]), [])
        self.assertEqual(gaps_of(read("abc")), [])
        self.assertEqual(gaps_of(read(EXAMPLE)), ["n"])
        self.assertEqual(gaps_of(read("{z}{a}{z}")), ["a", "z"])
        self.assertEqual(gaps_of(read(self.TEXT)), ["b", "c", "n", "q", "r", "t"])
        self.assertEqual(gaps_of(read("{@k theirs=mine}")), ["mine"])
        self.assertEqual(gaps_of(read("{@k b=x a=x c=b}")), ["b", "x"])

    def test_calls_of(self):
        self.assertEqual(calls_of([]), [])
        self.assertEqual(calls_of(read(EXAMPLE)), [])
        self.assertEqual(calls_of(read(self.TEXT)), ["key", "other"])
        self.assertEqual(calls_of(read("{@z}{@a}{@z}{#n a[{@m}]}")), ["a", "m", "z"])

    def test_what_is_handed_in_stays(self):
        pattern = read(self.TEXT)
        kept = copy.deepcopy(pattern)
        shown(pattern)
        size(pattern)
        gaps_of(pattern).append("x")
        calls_of(pattern).clear()
        part_at(pattern, (2,))
        self.assertEqual(pattern, kept)
        self.assertEqual(gaps_of(pattern), ["b", "c", "n", "q", "r", "t"])
        self.assertEqual(calls_of(pattern), ["key", "other"])


def places_of(pattern, ahead=()):
    """Each place with its part, built straight from the words of [7]."""
    places = {}
    for k, part in enumerate(pattern):
        places[ahead + (k,)] = part
        if part[0] in ("many", "kind", "rank"):
            for j, (name, within) in enumerate(part[2]):
                places.update(places_of(within, ahead + (k, j)))
    return places


class TestPlaces(unittest.TestCase):
    def test_each_place_of_the_example(self):
        pattern = read(EXAMPLE)
        self.assertEqual(part_at(pattern, (0,)), pattern[0])
        self.assertEqual(part_at(pattern, (0, 0, 0)), ("text", "no tile"))
        self.assertEqual(part_at(pattern, (0, 2, 0)), ("gap", "n"))
        self.assertEqual(part_at(pattern, (0, 2, 1)), ("text", " tiles"))

    def test_tuples_beside_them(self):
        pattern = read(EXAMPLE)
        for place in ((), (1,), (-1,), (0, 0), (0, 2), (0, 0, 1), (0, 3, 0), (0, -1, 0), (0, 0, -1), (0, 2, 2),
                      (0, 2, 0, 0), (0, 2, 0, 0, 0), (-1, 2, 0), (0, 2, -2), (10 ** 60,), (0, 10 ** 60, 0)):
            with self.subTest(place=place), self.assertRaises(NoPlace):
                part_at(pattern, place)

    def test_the_empty_pattern_and_calls(self):
        for place in ((), (0,), (-1,), (0, 0, 0)):
            with self.subTest(place=place), self.assertRaises(NoPlace):
                part_at([], place)
        for place in ((0, 0, 0), (0, 0), (0, 0, 1)):
            with self.subTest(place=place), self.assertRaises(NoPlace):
                part_at(read("{@key a=b}"), place)

    def test_all_tuples_of_small_numbers(self):
        pattern = read("{#n a[x{#n a[y] b[{n}]}] b[]}{n}")
        places = places_of(pattern)
        tuples = [()]
        row = [()]
        for length in range(5):
            row = [place + (number,) for place in row for number in (-1, 0, 1, 2)]
            tuples.extend(row)
        for place in tuples:
            if place in places:
                self.assertEqual(part_at(pattern, place), places[place])
            else:
                with self.assertRaises(NoPlace):
                    part_at(pattern, place)

    def test_random_patterns(self):
        rng = random.Random(3)
        for k in range(300):
            pattern = some_pattern(rng, 0, 4)
            places = places_of(pattern)
            self.assertEqual(size(pattern), len(places))
            for place, part in places.items():
                self.assertEqual(part_at(pattern, place), part)
                for beside in (place + (0,), place + (0, 0), place[:-1], place[:-1] + (place[-1] - 1,),
                               place[:-1] + (place[-1] + 1,), place + (0, 0, 0, 0)):
                    if beside not in places:
                        with self.assertRaises(NoPlace):
                            part_at(pattern, beside)


class TestOwnAnswers(unittest.TestCase):
    def test_two_patterns_read_share_nothing(self):
        one = read(EXAMPLE)
        other = read(EXAMPLE)
        one[0][2][2][1].append(("text", "!"))
        one[0][2].pop(0)
        one.append(("gap", "m"))
        self.assertEqual(shown(other), EXAMPLE)
        self.assertEqual(shown(read(EXAMPLE)), EXAMPLE)

    def test_a_part_told_is_its_own(self):
        pattern = read("{#n a[{@key x=n}] b[]}")
        part = part_at(pattern, (0,))
        part[2][1][1].append(("text", "!"))
        part[2].pop(0)
        self.assertEqual(shown(pattern), "{#n a[{@key x=n}] b[]}")
        call = part_at(pattern, (0, 0, 0))
        call[2].append(("y", "n"))
        self.assertEqual(shown(pattern), "{#n a[{@key x=n}] b[]}")

    def test_a_part_told_stays_when_the_pattern_is_changed(self):
        pattern = read("{#n a[{@key x=n}] b[]}")
        part = part_at(pattern, (0,))
        call = part_at(pattern, (0, 0, 0))
        pattern[0][2][0][1][0][2].clear()
        pattern[0][2][1][1].append(("gap", "n"))
        pattern[0][2].pop()
        self.assertEqual(shown([part]), "{#n a[{@key x=n}] b[]}")
        self.assertEqual(shown([call]), "{@key x=n}")


if __name__ == "__main__":
    unittest.main()
