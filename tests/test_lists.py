"""How lists are laid and read back, of saywell.lists: point [13]."""

import copy
import random
import unittest

from saywell.lists import laid, unlaid

JOINERS = ("nothing", " and ", ", ", " and ")
LETTERS = "abcdefghijklmnopqrstuvwxyzABCDEFGHIJKLMNOPQRSTUVWXYZ"


def plainly_laid(joiners, texts):
    none, two, middle, last = joiners
    if len(texts) == 0:
        return none
    if len(texts) < 3:
        return two.join(texts)
    return middle.join(texts[:-1]) + last + texts[-1]


def heads(text):
    """Each beginning of a text that is one to twelve letters."""
    found = []
    for length in range(1, 13):
        if length <= len(text) and text[length - 1] in LETTERS:
            found.append(text[:length])
        else:
            break
    return found


def found_lists(joiners, text):
    """All lists that are laid as the text, found by trying every length of every text."""
    none, two, middle, last = joiners
    lists = [[]] if text == none else []
    for length in range(1, 9):
        joints = [two] if length == 2 else [middle] * (length - 2) + [last] if length > 2 else []
        rows = [([], text)]
        for joint in joints:
            rows = [(texts + [head], left[len(head) + len(joint):]) for texts, left in rows for head in heads(left)
                    if left[len(head):].startswith(joint)]
        lists.extend([texts + [left] for texts, left in rows if left in heads(left)])
    return lists


class TestLaid(unittest.TestCase):
    def test_none_to_eight(self):
        joiners = ("no one", " + ", "; ", " & ")
        self.assertEqual(laid(joiners, []), "no one")
        self.assertEqual(laid(joiners, ["Ann"]), "Ann")
        self.assertEqual(laid(joiners, ["Ann", "Bob"]), "Ann + Bob")
        self.assertEqual(laid(joiners, ["a", "b", "c"]), "a; b & c")
        self.assertEqual(laid(joiners, ["a", "b", "c", "d"]), "a; b; c & d")
        self.assertEqual(laid(joiners, list("abcdefgh")), "a; b; c; d; e; f; g & h")

    def test_no_sign_for_none(self):
        self.assertEqual(laid(("", "-", "-", "-"), []), "")

    def test_texts_alike(self):
        self.assertEqual(laid(JOINERS, ["a", "a", "a"]), "a, a and a")

    def test_texts_stay(self):
        texts = ["a", "b", "c"]
        laid(JOINERS, texts)
        self.assertEqual(texts, ["a", "b", "c"])


class TestUnlaid(unittest.TestCase):
    def check(self, joiners, text):
        with self.subTest(joiners=joiners, text=text):
            lists = unlaid(joiners, text)
            self.assertEqual(lists, found_lists(joiners, text))
            self.assertEqual([plainly_laid(joiners, texts) for texts in lists], [text] * len(lists))
            return lists

    def test_ordinary_ones(self):
        self.assertEqual(self.check(JOINERS, "a"), [["a"]])
        self.assertEqual(self.check(JOINERS, "a and b"), [["a", "b"]])
        self.assertEqual(self.check(JOINERS, "a, b and c"), [["a", "b", "c"]])
        self.assertEqual(self.check(JOINERS, "a, b, c, d, e, f, g and h"), [list("abcdefgh")])

    def test_none_that_is_itself_letters(self):
        self.assertEqual(self.check(JOINERS, "nothing"), [[], ["nothing"]])
        self.assertEqual(self.check(("", "-", "-", "-"), ""), [[]])

    def test_none_that_is_a_lists_text(self):
        self.assertEqual(self.check(("a-b", "-", ",", "-"), "a-b"), [[], ["a", "b"]])
        self.assertEqual(self.check(("a,b-c", "-", ",", "-"), "a,b-c"), [[], ["a", "b", "c"]])

    def test_none_of_other_signs(self):
        self.assertEqual(self.check(("-", "-", "-", "-"), "-"), [[]])
        self.assertEqual(self.check(("()", "-", "-", "-"), "()"), [[]])

    def test_joiners_alike(self):
        joiners = ("", "-", "-", "-")
        for length in range(1, 9):
            texts = list("abcdefgh")[:length]
            self.assertEqual(self.check(joiners, "-".join(texts)), [texts])
        self.assertEqual(self.check(joiners, "a-b-c-d-e-f-g-h-i"), [])

    def test_two_that_holds_middle_letters_and_last(self):
        joiners = ("", ", x & ", ", ", " & ")
        self.assertEqual(self.check(joiners, "a, x & b"), [["a", "b"], ["a", "x", "b"]])
        self.assertEqual(self.check(joiners, "a, y & b"), [["a", "y", "b"]])
        joiners = ("", "-x-y-z-", "-", "-")
        self.assertEqual(self.check(joiners, "a-x-y-z-b"), [["a", "b"], ["a", "x", "y", "z", "b"]])

    def test_none_and_two_and_more_at_once(self):
        joiners = ("a-b-c", "-b-", "-", "-")
        self.assertEqual(self.check(joiners, "a-b-c"), [[], ["a", "c"], ["a", "b", "c"]])

    def test_one_joiner_begins_with_another(self):
        self.assertEqual(self.check(("", "-", "--", "---"), "a--b---c"), [["a", "b", "c"]])
        self.assertEqual(self.check(("", "-", "--", "---"), "a---c"), [])
        self.assertEqual(self.check(("", "---", "-", "--"), "a---b"), [["a", "b"]])
        self.assertEqual(self.check(("", ", ", ", ", ", and "), "a, b, and c"), [["a", "b", "c"]])
        self.assertEqual(self.check(("", ", ", ", and, ", ", "), "a, and, b"), [])
        self.assertEqual(self.check(("", ", ", ", and, ", ", "), "a, and, b, c"), [["a", "b", "c"]])
        self.assertEqual(self.check(("", " and ", ", ", " and "), "a and b and c"), [])

    def test_twelve_letters(self):
        self.assertEqual(self.check(JOINERS, "a" * 12), [["a" * 12]])
        self.assertEqual(self.check(JOINERS, "a" * 13), [])
        self.assertEqual(self.check(JOINERS, "a" * 12 + " and " + "B" * 12), [["a" * 12, "B" * 12]])
        self.assertEqual(self.check(JOINERS, "a" * 13 + " and b"), [])
        self.assertEqual(self.check(JOINERS, "a and " + "b" * 13), [])

    def test_texts_that_no_list_makes(self):
        for text in ("", " ", "a ", " a", "a1", "7", "a and ", " and b", "a and  b", "a, b", "a, and b", "a, b, c",
                     "a-b", "a and b1", "nothing ", "a and b and c and d", "a,b and c", "a and b, c"):
            self.assertEqual(self.check(JOINERS, text), [])

    def test_random_ones(self):
        rng = random.Random(21)
        joints = ["-", "--", ",", "-a-", ", b, ", "-,-", "-a-b-", ", ", " "]
        for k in range(1500):
            none = rng.choice(["", "a", "a-b", "-", "a,b", "a-a-b-b"])
            joiners = (none, rng.choice(joints), rng.choice(joints), rng.choice(joints))
            texts = [rng.choice(["a", "b", "ab", "a" * 12]) for j in range(rng.randrange(9))]
            text = plainly_laid(joiners, texts)
            self.assertEqual(laid(joiners, texts), text)
            self.assertIn(texts, self.check(joiners, text))
            place = rng.randrange(len(text) + 1)
            self.check(joiners, text[:place] + rng.choice(["", "-", "a", ",", "aaa"]) + text[place + rng.randrange(2):])

    def test_lists_told_are_their_own(self):
        joiners = ("a-b-c", "-b-", "-", "-")
        kept = copy.deepcopy(joiners)
        told = unlaid(joiners, "a-b-c")
        told[1].append("x")
        told[2].clear()
        self.assertEqual(told[0], [])
        self.assertEqual(unlaid(joiners, "a-b-c"), [[], ["a", "c"], ["a", "b", "c"]])
        self.assertEqual(joiners, kept)


if __name__ == "__main__":
    unittest.main()
