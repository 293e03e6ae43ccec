"""Roads along which tongues fall back, and owners of messages, as points [18] to [20] of the document tell them."""

from saywell.patterns import calls_of


def road(house, tongue):
    names = [house.tongue_named(tongue).name]
    known = house.tongues()
    gone = 0
    while gone < len(names):
        for name in house.tongue_named(names[gone]).falls:
            if name in known and name not in names:
                names.append(name)
        gone = gone + 1
    return names


def owner(house, tongue, key):
    names = road(house, tongue)
    if key not in house.messages():
        return None
    for name in names:
        if owns(house, name, key):
            return name
    return None


def owns(house, name, key):
    if house.is_whole(key):
        return stands_alone(house, name, key)
    return house.piece(name, key) is not None


def word_of(house, tongue, thing):
    for name in road(house, tongue):
        found = house.own_word(name, thing)
        if found is not None:
            text, kind = found
            return (name, text, kind)
    return None


def stands_alone(house, tongue, key):
    keys = [key]
    gone = 0
    while gone < len(keys):
        pattern = house.piece(tongue, keys[gone])
        if pattern is None:
            return False
        keys.extend([called for called in calls_of(pattern) if called not in keys])
        gone = gone + 1
    if not any([needs_words(house, each) for each in keys]):
        return True
    return all([house.own_word(tongue, thing) is not None for thing in house.things()])


def needs_words(house, key):
    return any([kind in ("thing", "list") for gap, kind in house.gaps(key)])
