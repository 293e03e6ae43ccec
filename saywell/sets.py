"""Sets of whole numbers from 0 on, told by conditions, as points [9] and [10] of the document tell them.

A condition is worked out into spans: a list of pairs (start, bits), the first of which starts at 0. From each start to
below the next one, a number is a member just where the bit of its rest by 300 is set in bits.
"""

ROUND = 300


def holds(condition, n):
    sort = condition[0]
    if sort == "rest":
        return condition[2] <= n % condition[1] <= condition[3]
    if sort == "self":
        return condition[1] <= n and (condition[2] is None or n <= condition[2])
    if sort == "not":
        return not holds(condition[1], n)
    if sort == "and":
        return all([holds(each, n) for each in condition[1]])
    return any([holds(each, n) for each in condition[1]])


def least(condition, start=0):
    spans = spans_of(condition)
    for k, (begin, bits) in enumerate(spans):
        end = spans[k + 1][0] if k + 1 < len(spans) else None
        found = least_in(max(begin, start), end, bits)
        if found is not None:
            return found
    return None


def least_in(begin, end, bits):
    if bits == 0:
        return None
    # What isn't found in one round isn't found in a later one.
    last = begin + ROUND if end is None else min(end, begin + ROUND)
    for n in range(begin, last):
        if has_bit(bits, n % ROUND):
            return n
    return None


def below(condition, n):
    return below_in(counted(condition), n)


def both(one, other):
    return ("and", [copied(one), copied(other)])


def without(one, other):
    return ("and", [copied(one), ("not", copied(other))])


def copied(condition):
    if condition[0] in ("and", "or"):
        return (condition[0], [copied(each) for each in condition[1]])
    if condition[0] == "not":
        return ("not", copied(condition[1]))
    return condition


def has_bit(bits, number):
    return (bits >> number) & 1 == 1


# The bits of one row of m numbers are worked out one by one, and then laid side by side as often as m goes into 300.
def rest_bits(m, a, b):
    row = 0
    bit = 1
    for n in range(m):
        if a <= n <= b:
            row = row + bit
        bit = bit * 2
    bits = 0
    for k in range(ROUND // m):
        bits = bits * bit + row
    return bits


def all_bits():
    return rest_bits(20, 0, 19)


def spans_of(condition):
    sort = condition[0]
    if sort == "rest":
        return [(0, rest_bits(condition[1], condition[2], condition[3]))]
    if sort == "self":
        return self_spans(condition[1], condition[2])
    if sort == "not":
        every = all_bits()
        return [(begin, bits ^ every) for begin, bits in spans_of(condition[1])]
    rows = [spans_of(each) for each in condition[1]]
    if sort == "and":
        return folded(rows, both_bits, all_bits())
    return folded(rows, either_bits, 0)


def both_bits(one, other):
    return one & other


def either_bits(one, other):
    return one | other


def self_spans(a, b):
    every = all_bits()
    spans = [(0, 0)]
    if b is None or a <= b:
        add_span(spans, max(a, 0), every)
    if b is not None:
        add_span(spans, max(b + 1, 0), 0)
    return spans


# Two spans never start alike: the later one takes the earlier one's place.
def add_span(spans, begin, bits):
    if begin == spans[-1][0]:
        spans.pop()
    if spans == [] or spans[-1][1] != bits:
        spans.append((begin, bits))


# Neighbours are merged pair by pair and round by round, so that each span is walked but a few times.
def folded(rows, merge, of_none):
    if rows == []:
        return [(0, of_none)]
    while len(rows) > 1:
        pairs = [merged(rows[k], rows[k + 1], merge) for k in range(0, len(rows) - 1, 2)]
        if len(rows) % 2 == 1:
            pairs.append(rows[-1])
        rows = pairs
    return rows[0]


def merged(one, other, merge):
    spans = [(0, merge(one[0][1], other[0][1]))]
    k = 1
    j = 1
    while k < len(one) or j < len(other):
        if j == len(other) or (k < len(one) and one[k][0] <= other[j][0]):
            begin = one[k][0]
            k = k + 1
        else:
            begin = other[j][0]
            j = j + 1
        add_span(spans, begin, merge(one[k - 1][1], other[j - 1][1]))
    return spans


# A list of tuples (start, how many members are below start, how many of 0 to below r have their bit, for each r).
def counted(condition):
    table = []
    known = {}
    total = 0
    last = 0
    for begin, bits in spans_of(condition):
        if table != []:
            total = total + among(table[-1][2], last, begin)
        if bits not in known:
            known[bits] = bits_below(bits)
        table.append((begin, total, known[bits]))
        last = begin
    return table


def bits_below(bits):
    counts = [0]
    for r in range(ROUND):
        counts.append(counts[r] + (1 if has_bit(bits, r) else 0))
    return counts


def among(counts, begin, end):
    return until(counts, end) - until(counts, begin)


def until(counts, n):
    return n // ROUND * counts[ROUND] + counts[n % ROUND]


def below_in(table, n):
    low = 0
    high = len(table)
    while high - low > 1:
        mid = (low + high) // 2
        if table[mid][0] <= n:
            low = mid
        else:
            high = mid
    begin, total, counts = table[low]
    return total + among(counts, begin, n)
