"""Houses: tongues, things' texts, messages and pieces, as point [17] of the document tells them."""

from saywell.errors import NoMessage, NoThing, NoTongue, NoValue
from saywell.lists import is_thing_text
from saywell.patterns import calls_of, copied, is_choice, parts_of

ASKED_KINDS = {"many": ("count", "list"), "kind": ("thing",), "rank": ("rank",)}


class House:
    def __init__(self, kinds, ranks, things):
        self.kind_list = list(kinds)
        self.rank_list = list(ranks)
        self.thing_list = list(things)
        self.tongue_by_name = {}
        self.word_by_thing = {}
        self.gaps_by_key = {}
        self.whole_by_key = {}
        self.piece_by_key = {}

    def add(self, tongue):
        if tongue.name in self.tongue_by_name:
            raise NoTongue("a tongue of this name is there")
        self.tongue_by_name[tongue.name] = tongue

    def word(self, tongue, thing, text, kind):
        self.ask_tongue(tongue)
        if thing not in self.thing_list:
            raise NoThing(f"{thing!r} is no thing of the house")
        if not is_thing_text(text) or kind not in self.kind_list:
            raise NoValue(f"{text!r} of kind {kind!r} is no thing's text")
        self.word_by_thing[(tongue, thing)] = (text, kind)

    def declare(self, key, gaps, whole=False):
        if key in self.gaps_by_key:
            raise NoMessage(f"{key!r} is declared")
        self.gaps_by_key[key] = [(gap, kind) for gap, kind in gaps]
        self.whole_by_key[key] = whole

    def put(self, tongue, key, pattern):
        self.ask_tongue(tongue)
        for each in [key] + calls_of(pattern):
            self.ask_message(each)
        kinds = dict(self.gaps_by_key[key])
        for part in parts_of(pattern):
            if not self.is_well_used(part, kinds):
                raise NoValue(f"{part!r} doesn't use gaps as they are declared")
        self.piece_by_key[(tongue, key)] = copied(pattern)

    def drop(self, tongue, key):
        self.ask_tongue(tongue)
        self.piece_by_key.pop((tongue, key), None)

    def is_well_used(self, part, kinds):
        if part[0] == "text":
            return True
        if part[0] == "gap":
            return part[1] in kinds and kinds[part[1]] != "rank"
        if is_choice(part):
            return kinds.get(part[1]) in ASKED_KINDS[part[0]]
        # Sorted lists, not dicts, so that a gap bound twice is seen.
        bound = [(theirs, kinds.get(mine)) for theirs, mine in part[2]]
        return all([kind is not None for theirs, kind in bound]) and sorted(bound) == sorted(self.gaps_by_key[part[1]])

    def ask_tongue(self, name):
        if name not in self.tongue_by_name:
            raise NoTongue(f"{name!r} is no tongue of the house")

    def ask_message(self, key):
        if key not in self.gaps_by_key:
            raise NoMessage(f"{key!r} is not declared")

    def kinds(self):
        return list(self.kind_list)

    def ranks(self):
        return list(self.rank_list)

    def things(self):
        return list(self.thing_list)

    def tongues(self):
        return sorted(self.tongue_by_name)

    def messages(self):
        return sorted(self.gaps_by_key)

    def tongue_named(self, name):
        self.ask_tongue(name)
        return self.tongue_by_name[name]

    def own_word(self, tongue, thing):
        return self.word_by_thing.get((tongue, thing))

    def piece(self, tongue, key):
        pattern = self.piece_by_key.get((tongue, key))
        if pattern is None:
            return None
        return copied(pattern)

    def gaps(self, key):
        self.ask_message(key)
        return list(self.gaps_by_key[key])

    def is_whole(self, key):
        self.ask_message(key)
        return self.whole_by_key[key]
