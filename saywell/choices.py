"""Which arm of a choice is taken, as point [12] of the document tells it."""

from saywell.rules import set_of


def taken(names, number, word):
    if number is not None and f"={number}" in names:
        return f"={number}"
    if word in names:
        return word
    if "else" in names:
        return "else"
    return None


def is_number_name(name):
    return name[0] == "="


def number_set(name):
    number = int(name[1:])
    return ("self", number, number)


def set_for(names, name, rules):
    if name is None and "else" in names:
        return ("or", [])
    if name is not None and is_number_name(name):
        return number_set(name)
    words = [name]
    if name is None or name == "else":
        words = [word for word, condition in rules if word not in names]
    either = ("or", [set_of(rules, word) for word in words])
    return ("and", [either] + [("not", number_set(each)) for each in names if is_number_name(each)])
