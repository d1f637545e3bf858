"""Signs more: the fewest signs that make a row a mirror, the longest mirror that lies in it, and what shows both."""

from mirrorruns.ends import ends
from mirrorruns.errors import TooLong
from mirrorruns.kinds import is_same_number, is_stretch, is_whole
from mirrorruns.rows import back, need_row

MOST_MENDED = 60
MOST_AROUND = 120


def need_short(row):
    need_row(row)
    if len(row) > MOST_MENDED:
        raise TooLong("a row has at most 60 signs here")


# Both have to be rows ahead of any look at how long they are.
def lies_in(row, other, places):
    need_row(row)
    need_row(other)
    need_short(row)
    if len(other) > MOST_AROUND:
        raise TooLong("a row in which another one lies has at most 120 signs")
    if not are_rising_places(places, len(other)) or len(places) != len(row):
        return False
    return all([other[place] == sign for place, sign in zip(places, row)])


def are_rising_places(thing, length):
    if not isinstance(thing, list):
        return False
    if not all([is_whole(place) and 0 <= place < length for place in thing]):
        return False
    return all([place < later for place, later in zip(thing, thing[1:])])


def signs_more(row):
    return mend_table(row).get((0, len(row)), 0)


# From the outer signs to the inner ones, the pairs of like signs that the mirror has, each sign told by its place in
# the row, None where it is put to it; the sign in the middle, where there is one, is a pair with itself.
def mended_pairs(row):
    table = mend_table(row)
    told = []
    first = 0
    last = len(row) - 1
    while first <= last:
        if row[first] == row[last]:
            told.append((first, last))
            first = first + 1
            last = last - 1
        elif table[(first + 1, last + 1)] < table[(first, last)]:
            told.append((first, None))
            first = first + 1
        else:
            told.append((None, last))
            last = last - 1
    return told


def mended(row):
    pairs = mended_pairs(row)
    right = [pair[1] for pair in pairs if pair[0] != pair[1]]
    own = [pair[0] for pair in pairs] + right[::-1]
    # Where a sign is put, the one opposite is the row's own.
    text = "".join([row[opposite if place is None else place] for place, opposite in zip(own, own[::-1])])
    return (text, [number for number, place in enumerate(own) if place is not None])


# Just the pairs in which both are the row's own.
def rest(row):
    pairs = [pair for pair in mended_pairs(row) if pair[0] is not None and pair[1] is not None]
    right = [pair[1] for pair in pairs if pair[0] != pair[1]]
    places = [pair[0] for pair in pairs] + right[::-1]
    return ("".join([row[place] for place in places]), places)


def mend_table(row):
    need_short(row)
    told = {}
    for length in range(1, len(row) + 1):
        for first in range(len(row) - length + 1):
            told[(first, first + length)] = more_for(row, told, first, first + length)
    return told


# What has no sign is not in the table: so get tells 0 of one sign, too, which is its own first and last one.
def more_for(row, table, first, behind):
    if row[first] == row[behind - 1]:
        return table.get((first + 1, behind - 1), 0)
    return min(table[(first + 1, behind)], table[(first, behind - 1)]) + 1


# To a dict (False, True) is the key (0, 1), so each key is asked whether it is a stretch.
def is_mend_table(thing, row):
    told = mend_table(row)
    if not isinstance(thing, dict) or len(thing) != len(told):
        return False
    return all([is_stretch(key, len(row)) and is_same_number(number, told.get(key)) for key, number in thing.items()])


def mended_behind(row):
    need_short(row)
    length = max(ends(row), default=0)
    return row + back(row[:len(row) - length])


# What is ahead of a row is behind it when it is turned about; the mirror needn't be turned back, as it reads alike.
def mended_ahead(row):
    return mended_behind(back(row))
