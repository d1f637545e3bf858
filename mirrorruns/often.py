"""How often: how often each mirror stands in a row and where, and the one with the greatest worth."""

from mirrorruns.ends import ends_by_place
from mirrorruns.grower import Grower
from mirrorruns.rows import need_mirror, need_row
from mirrorruns.trees import tree


# Wherever a mirror ends it is the top, or a lesser end of the top, and so reached from it by less after less. A less is
# elder than its mirror: from the last one back, each has its whole number when it is handed on.
def often(row):
    entries = tree(row)
    many = [0 for entry in entries]
    for number in tops(row):
        many[number] = many[number] + 1
    for number in range(len(entries) - 1, -1, -1):
        less = entries[number][2]
        if less is not None:
            many[less] = many[less] + many[number]
    return dict([(entry[0], count) for entry, count in zip(entries, many)])


def stretches(row, text):
    need_row(row)
    need_mirror(text)
    length = len(text)
    return [(first, first + length) for first in range(len(row)) if row[first:first + length] == text]


def deeps(row):
    return [len(lengths) for lengths in ends_by_place(row)[1:]]


# Sign by sign, a grower tells just this number.
def tops(row):
    need_row(row)
    grower = Grower()
    return [grower.add(sign)[0] for sign in row]


def worthiest(row):
    many = often(row)
    best = None
    for entry in tree(row):
        text = entry[0]
        worth = len(text) * many[text]
        if best is None or worth > best[1]:
            best = (text, worth)
    return best
