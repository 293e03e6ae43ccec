"""The promise over the whole program: point [4]."""

import random
import unittest

from saywell.books import Book
from saywell.errors import TooMany
from saywell.looks import flaws
from saywell.patterns import read, shown, size
from saywell.press import press
from saywell.readings import readings
from saywell.roads import owner, road
from saywell.saying import pieces, say
from helper import GAP_KINDS, THINGS, a_house, a_tongue, put, some_piece, some_tongue, some_values

SLAVIC = "one: self in 1..1; few: (rest 10 in 2..4 and not rest 100 in 12..14); many"


class TestAnExample(unittest.TestCase):
    """Three tongues, two translators, one press, and what is said and read back."""

    def setUp(self):
        self.house = a_house([
            a_tongue("en", ["pl"]),
            a_tongue("pl", ["de"], SLAVIC, ("nic", " i ", ", ", " i "), (3, 3, " ", "-", "0123456789")),
            a_tongue("de", ["pl", "en"], figures=(3, 3, ".", "-", "0123456789"), dayform=("dmy", ". ", None)),
        ])
        for tongue, cat, dog in (("en", "cat", "dog"), ("pl", "kot", "pies"), ("de", "Katze", "Hund")):
            self.house.word(tongue, "cat", cat, "f")
            self.house.word(tongue, "dog", dog, "m")
        self.house.declare("tiles", [("n", "count")])
        self.house.declare("owner", [("t", "thing"), ("n", "count"), ("d", "day")])
        self.house.declare("shut", [("n", "count")], whole=True)
        put(self.house, "en", "tiles", "{#n =0[no tile] one[a tile] else[{n} tiles]}")
        put(self.house, "en", "owner", "The {t} has {@tiles n=n} since {d}.")
        put(self.house, "en", "shut", "Shut: {@tiles n=n}")

    def pressed(self):
        ann = Book("ann")
        bob = Book("bob")
        ann.write("pl", "tiles", "{#n =0[zero] one[kafelek] few[{n} kafelki] many[{n} kafelkow]}",
                  "{#n =0[no tile] one[a tile] else[{n} tiles]}")
        bob.write("de", "owner", "{~t m[Der] f[Die]} {t} hat {@tiles n=n} seit {d}.",
                  "The {t} has {@tiles n=n} since {d}.")
        bob.write("de", "shut", "Zu: {@tiles n=n}", "Shut: {@tiles n=n}")
        ann.take_in(bob)
        return press(self.house, ann, "en")

    def test_said_and_read_back(self):
        self.assertEqual(self.pressed(), [])
        self.assertEqual(road(self.house, "de"), ["de", "pl", "en"])
        self.assertEqual(flaws(self.house, "de", "owner"), [])
        values = {"t": "cat", "n": 1022, "d": 59}
        text = say(self.house, "de", "owner", values)
        self.assertEqual(text, "Die Katze hat 1 022 kafelki seit 29. 2. 0.")
        self.assertEqual(readings(self.house, "de", "owner", text),
                         [[("t", "shown", "cat"), ("n", "shown", 1022), ("d", "shown", 59)]])
        text = say(self.house, "de", "owner", {"t": "dog", "n": 1, "d": 0})
        self.assertEqual(text, "Der Hund hat kafelek seit 1. 1. 0.")
        self.assertEqual(readings(self.house, "de", "owner", text), [[
            ("t", "shown", "dog"), ("n", "hidden", [("pl", "many", ["=0", "one", "few", "many"], "one")], 1),
            ("d", "shown", 0)]])

    def test_a_whole_message_out_of_one_tongue(self):
        self.assertEqual(self.pressed(), [])
        self.assertEqual(owner(self.house, "de", "shut"), "en")
        self.assertEqual(say(self.house, "de", "shut", {"n": 3}), "Shut: 3 tiles")
        self.assertEqual(owner(self.house, "pl", "shut"), "en")

    def test_a_changed_first_make_is_stale(self):
        put(self.house, "en", "shut", "Closed: {@tiles n=n}")
        self.assertEqual(self.pressed(), [("de", "shut", "stale")])


class TestRandom(unittest.TestCase):
    def house(self, rng):
        names = ["de", "en", "fr", "it"]
        house = a_house([some_tongue(rng, name, rng.sample(names + ["xx"], rng.randrange(1, 5))) for name in names],
                        things=THINGS, kinds=["m", "f", "n"])
        for name in names:
            for thing in THINGS:
                if rng.random() < 0.9:
                    house.word(name, thing, rng.choice(["cat", "dog", "ant", "c", "ca", "at"]), rng.choice("mfn"))
        for key in ("k", "l", "m", "n"):
            kinds = [rng.choice(GAP_KINDS) for k in range(rng.randrange(4))]
            house.declare(key, list(zip("abcd", kinds)), rng.random() < 0.2)
        keys = house.messages()
        for k, key in enumerate(keys):
            if rng.random() < 0.9:
                house.put("en", key, self.piece(rng, house, key, keys[k + 1:]))
        return house

    def piece(self, rng, house, key, keys):
        while True:
            pattern = some_piece(rng, house, key, keys, rng.random() < 0.8)
            if size(pattern) <= 40 and len(shown(pattern)) <= 1000:
                return pattern

    def book(self, rng, house):
        books = [Book(hand) for hand in ("ann", "bob")]
        keys = house.messages()
        for step in range(12):
            k = rng.randrange(len(keys))
            first = house.piece("en", keys[k])
            text = shown(self.piece(rng, house, keys[k], keys[k + 1:]))
            make = "old" if first is None or rng.random() < 0.1 else shown(first)
            rng.choice(books).write(rng.choice(["de", "fr", "it"]), keys[k], text, make)
            if rng.random() < 0.2:
                books[0].take_in(books[1])
        books[1].take_in(books[0])
        return books[1]

    def test_pressed_said_and_read(self):
        rng = random.Random(121)
        read_back = 0
        for k in range(120):
            house = self.house(rng)
            press(house, self.book(rng, house), "en")
            for tongue in house.tongues():
                for key in house.messages():
                    if flaws(house, tongue, key) == []:
                        read_back = read_back + self.check(rng, house, tongue, key)
        self.assertGreater(read_back, 500)

    def check(self, rng, house, tongue, key):
        values = some_values(rng, house, key)
        rows = pieces(house, tongue, key, values)
        text = say(house, tongue, key, values)
        self.assertEqual("".join([row[3] for row in rows]), text)
        for row in rows:
            self.assertIn(row[0], road(house, tongue))
        if house.is_whole(key):
            self.assertLessEqual(len(set([row[0] for row in rows])), 1)
        try:
            told = readings(house, tongue, key, text)
        except TooMany:
            return 0
        self.assertNotEqual(told, [])
        for reading in told:
            least = {row[0]: row[2] if row[1] == "shown" else row[3] for row in reading}
            self.assertEqual(say(house, tongue, key, least), text)
        if len(told) == 1 and all([row[1] == "shown" for row in told[0]]):
            self.assertEqual({row[0]: row[2] for row in told[0]}, values)
        return 1

    def test_patterns_of_the_house_are_read_from_their_texts(self):
        rng = random.Random(122)
        for k in range(60):
            house = self.house(rng)
            for key in house.messages():
                pattern = house.piece("en", key)
                if pattern is not None:
                    self.assertEqual(read(shown(pattern)), pattern)


if __name__ == "__main__":
    unittest.main()
