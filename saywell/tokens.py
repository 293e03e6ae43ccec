"""The tokens of a pattern, as point [8] of the document tells them."""

from saywell.patterns import is_choice


def tokens(pattern):
    found = []
    for part in pattern:
        found.extend(tokens_of_part(part))
    return found


def tokens_of_part(part):
    if part[0] == "text":
        return [("word", row) for row in part[1].split(" ") if row != ""]
    if part[0] == "say":
        return [("say", part[1], tuple([(theirs, mine) for theirs, mine in part[2]]))]
    if not is_choice(part):
        return [(part[0], part[1])]
    found = [(part[0], part[1])]
    for name, within in part[2]:
        found.append(("way", name))
        found.extend(tokens(within))
    found.append(("end", part[1]))
    return found


def changed(old, new):
    olds = tokens(old)
    news = tokens(new)
    gone = more_of(olds, news)
    come = more_of(news, olds)
    if olds == news:
        return ("same", gone, come)
    if gone == [] and come == []:
        return ("order", gone, come)
    return ("other", gone, come)


def more_of(ones, others):
    left = list(others)
    more = []
    for token in sorted(ones):
        if token in left:
            left.remove(token)
        else:
            more.append(token)
    return more
