"""The translators' books, as point [27] of the document tells them.

A writing is known by a tuple (hand, number, text, first), the number counting what was written in the hand's book: so
what a hand writes twice is two writings, and what two hands write alike is too.
"""

from saywell.errors import NoWriting


class Book:
    def __init__(self, hand):
        self.hand = hand
        self.written = 0
        # Of each piece (tongue, key) a dict of the writings held, each with a dict of those that it has seen.
        self.held = {}

    def write(self, tongue, key, text, first):
        seen = {}
        held = self.held.get((tongue, key), {})
        for each in held:
            seen[each] = True
            seen.update(held[each])
        self.written = self.written + 1
        self.held[(tongue, key)] = {(self.hand, self.written, text, first): seen}

    def take_in(self, other):
        for piece in list(other.held):
            both = dict(self.held.get(piece, {}))
            both.update(other.held[piece])
            self.held[piece] = dict([(each, both[each]) for each in both if not is_seen(each, both)])

    def told(self):
        return [piece + (self.unlike(piece),) for piece in sorted(self.held)]

    def clashes(self):
        return [piece for piece in sorted(self.held) if len(self.unlike(piece)) > 1]

    def writing(self, tongue, key):
        pairs = self.unlike((tongue, key))
        if len(pairs) != 1:
            raise NoWriting(f"there is no one writing of {key!r} in {tongue!r}")
        return pairs[0]

    def unlike(self, piece):
        return sorted(set([(text, first) for hand, number, text, first in self.held.get(piece, {})]))


# What a writing that was seen has seen in its turn was seen too, so it is enough to ask those that are held.
def is_seen(writing, held):
    return any([writing in held[other] for other in held])
