"""The refusals: SayError is any of them, and each other one stands straight under it."""


class SayError(ValueError):
    pass


class NoPattern(SayError):
    pass


class NoPlace(SayError):
    pass


class NoRules(SayError):
    pass


class NoNumber(SayError):
    pass


class NoDay(SayError):
    pass


class NoTongue(SayError):
    pass


class NoThing(SayError):
    pass


class NoMessage(SayError):
    pass


class NoValue(SayError):
    pass


class Lacking(SayError):
    def __init__(self, tongue, key, place):
        self.tongue = tongue
        self.key = key
        self.place = place


class TooGreat(SayError):
    pass


class TooMany(SayError):
    pass


class Flawed(SayError):
    pass


class NoWriting(SayError):
    pass
