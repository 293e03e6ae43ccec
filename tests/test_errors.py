"""The refusals of saywell.errors."""

import unittest

from saywell import errors

NAMES = [
    "NoPattern", "NoPlace", "NoRules", "NoNumber", "NoDay", "NoTongue", "NoThing", "NoMessage", "NoValue",
    "Lacking", "TooGreat", "TooMany", "Flawed", "NoWriting",
]


def made(name):
    error_class = getattr(errors, name)
    if name == "Lacking":
        return error_class("de", "tiles", (0, 1, 2))
    return error_class("told so")


class TestErrors(unittest.TestCase):
    def test_each_is_taken_by_its_own_name(self):
        for name in NAMES:
            with self.subTest(name), self.assertRaises(getattr(errors, name)):
                raise made(name)

    def test_each_is_taken_as_say_error(self):
        for name in NAMES:
            with self.subTest(name), self.assertRaises(errors.SayError):
                raise made(name)

    def test_each_is_taken_as_value_error(self):
        for name in NAMES:
            with self.subTest(name), self.assertRaises(ValueError):
                raise made(name)

    def test_say_error_itself_is_taken_as_value_error(self):
        with self.assertRaises(ValueError):
            raise errors.SayError("told so")

    def test_none_is_taken_as_another_one(self):
        for name in NAMES:
            for other in NAMES:
                if other != name:
                    with self.subTest(name=name, other=other):
                        self.assertNotIsInstance(made(name), getattr(errors, other))

    def test_say_error_is_none_of_them(self):
        for name in NAMES:
            with self.subTest(name):
                self.assertNotIsInstance(errors.SayError("told so"), getattr(errors, name))

    def test_each_has_its_own_name_and_module(self):
        for name in ["SayError"] + NAMES:
            with self.subTest(name):
                self.assertEqual(getattr(errors, name).__name__, name)
                self.assertEqual(getattr(errors, name).__module__, "saywell.errors")


class TestLacking(unittest.TestCase):
    def test_fields(self):
        lacking = errors.Lacking("de", "tiles", (3, 0, 1))
        self.assertEqual(lacking.tongue, "de")
        self.assertEqual(lacking.key, "tiles")
        self.assertEqual(lacking.place, (3, 0, 1))

    def test_fields_by_their_names(self):
        lacking = errors.Lacking(place=(7,), key="hello", tongue="fr")
        self.assertEqual((lacking.tongue, lacking.key, lacking.place), ("fr", "hello", (7,)))

    def test_fields_of_what_was_raised(self):
        with self.assertRaises(errors.SayError) as caught:
            raise errors.Lacking("de", "tiles", (0,))
        taken = caught.exception
        self.assertEqual((taken.tongue, taken.key, taken.place), ("de", "tiles", (0,)))

    def test_two_have_their_own_fields(self):
        one = errors.Lacking("de", "tiles", (0,))
        other = errors.Lacking("fr", "hello", (1,))
        self.assertEqual((one.tongue, one.key, one.place), ("de", "tiles", (0,)))
        self.assertEqual((other.tongue, other.key, other.place), ("fr", "hello", (1,)))

    def test_all_three_are_needed(self):
        for handed in ((), ("de",), ("de", "tiles")):
            with self.subTest(handed), self.assertRaises(TypeError):
                errors.Lacking(*handed)


if __name__ == "__main__":
    unittest.main()
