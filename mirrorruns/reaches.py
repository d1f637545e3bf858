"""Reaches: how far the mirrors around each middle of a row go, how many there are, and the longest."""

from mirrorruns.errors import NoMiddle
from mirrorruns.kinds import is_same_number, is_whole
from mirrorruns.rows import need_row


def reaches(row):
    need_row(row)
    return [reach_around(row, middle) for middle in range(2 * len(row) - 1)]


# A stretch (first, behind) has the middle first + behind - 1. The least one around a middle has one sign or none,
# so the length found is 0 of itself where no mirror has this middle.
def reach_around(row, middle):
    first = (middle + 1) // 2
    behind = middle + 1 - first
    while first > 0 and behind < len(row) and row[first - 1] == row[behind]:
        first = first - 1
        behind = behind + 1
    return behind - first


def reach(row, middle):
    need_row(row)
    if not is_whole(middle) or not 0 <= middle <= 2 * len(row) - 2:
        raise NoMiddle("the middles of a row with n signs are the whole numbers from 0 to 2 n - 2")
    return reach_around(row, middle)


def are_reaches(thing, row):
    told = reaches(row)
    if not isinstance(thing, list) or len(thing) != len(told):
        return False
    return all([is_same_number(given, wanted) for given, wanted in zip(thing, told)])


# Around a middle the lengths of mirrors go by two, from 1 or 2 up to its reach.
def mirrors_many(row):
    return sum([(length + 1) // 2 for length in reaches(row)])


# Of stretches of one length, the one with the least middle is the first one.
def longest(row):
    told = reaches(row)
    if told == []:
        return None
    length = max(told)
    first = (told.index(length) + 1 - length) // 2
    return (first, first + length)
