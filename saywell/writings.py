"""When a writing is stale, as point [28] of the document tells it."""

from saywell.patterns import read
from saywell.tokens import tokens


def stale(first, now):
    return tokens(read(first)) != tokens(read(now))
