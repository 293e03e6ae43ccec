"""How a list of things' texts is laid, and read back, as point [13] of the document tells it."""

from saywell.scan import row_at, stands
from saywell.words import is_letter

MOST_TEXTS = 8
MOST_LETTERS = 12


def is_thing_text(text):
    return 1 <= len(text) <= MOST_LETTERS and all([is_letter(sign) for sign in text])


# What stands behind the text of this number, from 0, in a list of so many texts.
def joint_behind(joiners, number, how_many):
    none, two, middle, last = joiners
    if how_many == 2:
        return two
    if number == how_many - 2:
        return last
    return middle


def laid(joiners, texts):
    if texts == []:
        return joiners[0]
    joined = ""
    for k in range(len(texts) - 1):
        joined = joined + texts[k] + joint_behind(joiners, k, len(texts))
    return joined + texts[-1]


# All texts of a list but the last, and the place where the last begins; None where no such list begins at start.
# As a joiner begins and ends with a sign that is no letter, each text but the last is a whole row of letters.
def begun(joiners, text, start, how_many):
    texts = []
    end = start
    for k in range(how_many - 1):
        row, end = row_at(text, end, is_letter)
        joint = joint_behind(joiners, k, how_many)
        if not is_thing_text(row) or not stands(text, end, joint):
            return None
        texts.append(row)
        end = end + len(joint)
    return (texts, end)


def unlaid(joiners, text):
    lists = []
    if text == joiners[0]:
        lists.append([])
    for how_many in range(1, MOST_TEXTS + 1):
        found = begun(joiners, text, 0, how_many)
        if found is not None:
            texts, end = found
            if is_thing_text(text[end:]):
                lists.append(texts + [text[end:]])
    return lists
