"""How a message is said, as point [24] of the document tells it."""

from saywell.errors import Lacking, NoMessage, NoValue, TooGreat
from saywell.gapkinds import arm_for, is_value, value_text
from saywell.looks import MOST_DEEP, MOST_PARTS
from saywell.patterns import is_choice, names_of
from saywell.roads import owner


def say(house, tongue, key, values):
    return "".join([text for name, said, gap, text in pieces(house, tongue, key, values)])


def pieces(house, tongue, key, values):
    name = owner(house, tongue, key)
    if name is None:
        raise NoMessage(f"{key!r} has no piece on the road of {tongue!r}")
    gaps = house.gaps(key)
    if len(values) != len(gaps) or not all([has_value(house, values, gap, kind) for gap, kind in gaps]):
        raise NoValue(f"{values!r} are not the values of {key!r}")
    walk = Walk(house)
    walk.go_message((name, key), values, 1)
    return walk.rows


def has_value(house, values, gap, kind):
    return gap in values and is_value(house, kind, values[gap])


# One walk along the pieces of a message: how many parts were gone through, and the rows that were said.
class Walk:
    def __init__(self, house):
        self.house = house
        self.gone = 0
        self.rows = []

    # pair is (owner, key), deep how many messages one stands in.
    def go_message(self, pair, values, deep):
        if deep > MOST_DEEP:
            raise TooGreat("too many messages in one another")
        name, key = pair
        self.go_pattern(pair, self.house.piece(name, key), (), values, deep)

    def go_pattern(self, pair, pattern, ahead, values, deep):
        for k, part in enumerate(pattern):
            if self.gone == MOST_PARTS:
                raise TooGreat("too many parts")
            self.gone = self.gone + 1
            if part[0] == "text":
                self.rows.append(pair + ("", part[1]))
            elif part[0] == "gap":
                self.go_gap(pair, part[1], values)
            elif is_choice(part):
                self.go_choice(pair, part, ahead + (k,), values, deep)
            else:
                self.go_call(pair, part, values, deep)

    def go_gap(self, pair, gap, values):
        name, key = pair
        kind = dict(self.house.gaps(key))[gap]
        self.rows.append((name, key, gap, value_text(self.house, name, kind, values[gap])))

    def go_choice(self, pair, part, place, values, deep):
        name, key = pair
        how, gap, ways = part
        names = names_of(ways)
        arm = arm_for(self.house, name, how, names, values[gap])
        if arm is None:
            raise Lacking(name, key, place)
        number = names.index(arm)
        self.go_pattern(pair, ways[number][1], place + (number,), values, deep)

    def go_call(self, pair, part, values, deep):
        how, key, binds = part
        name = owner(self.house, pair[0], key)
        if name is None:
            raise NoMessage(f"{key!r} has no owner")
        self.go_message((name, key), dict([(theirs, values[mine]) for theirs, mine in binds]), deep + 1)
