"""Cuts: a row cut into mirrors, the fewest that do and what bars fewer, and how many cuts there are."""

from mirrorruns.ends import ends_by_place
from mirrorruns.errors import NoCount
from mirrorruns.kinds import is_whole
from mirrorruns.rows import need_row, reads_alike


def is_cut(thing, row):
    need_row(row)
    if not isinstance(thing, list):
        return False
    place = 0
    for stretch in thing:
        if not reads_alike(row, stretch) or stretch[0] != place or stretch[1] == place:
            return False
        place = stretch[1]
    return place == len(row)


# Of each place, of which the lengths of the stretches that may end there are told: the fewest stretches that lead to it
# from 0, None where none do.
def fewest_by_place(lengths):
    told = [0]
    for behind in range(1, len(lengths)):
        known = [told[behind - length] for length in lengths[behind] if told[behind - length] is not None]
        told.append(min(known) + 1 if known != [] else None)
    return told


def fewest(row):
    return bounds(row)[-1]


# From behind: of the stretches that end at a place, one at least begins where one stretch less leads to.
def cut(row):
    lengths = ends_by_place(row)
    least = fewest_by_place(lengths)
    told = []
    behind = len(row)
    while behind > 0:
        firsts = [behind - length for length in lengths[behind] if least[behind - length] < least[behind]]
        told.append((firsts[0], behind))
        behind = firsts[0]
    return told[::-1]


def are_bounds(thing, row):
    lengths = ends_by_place(row)
    if not isinstance(thing, list) or len(thing) != len(lengths):
        return False
    if not all([is_whole(number) for number in thing]) or thing[0] != 0:
        return False
    return all([keeps_bound(thing, behind, lengths[behind]) for behind in range(len(lengths))])


def keeps_bound(numbers, behind, lengths):
    return all([numbers[behind] <= numbers[behind - length] + 1 for length in lengths])


def bounds(row):
    return fewest_by_place(ends_by_place(row))


# A cut is a last stretch and a cut of the signs ahead of it, so the cuts needn't be gone through one by one.
def cuts_by_last(many, behind, lengths):
    return sum([many[behind - length] for length in lengths])


def cuts_many(row):
    lengths = ends_by_place(row)
    many = [1]
    for behind in range(1, len(lengths)):
        many.append(cuts_by_last(many, behind, lengths[behind]))
    return many[-1]


# No cut has more stretches than the row has signs, so great counts needn't be counted up to.
def cuts_of(row, count):
    lengths = ends_by_place(row)
    if not is_whole(count) or count < 0:
        raise NoCount("a count of stretches is a whole number from 0 on")
    if count > len(row):
        return 0
    many = [1] + [0 for sign in row]
    for step in range(count):
        many = [cuts_by_last(many, behind, lengths[behind]) for behind in range(len(lengths))]
    return many[-1]


def fewest_even_by_place(row):
    return fewest_by_place([even_ones(lengths) for lengths in ends_by_place(row)])


def even_ones(lengths):
    return [length for length in lengths if length % 2 == 0]


def even_ends(row):
    return [behind for behind, least in enumerate(fewest_even_by_place(row)) if least is not None]


def fewest_even(row):
    return fewest_even_by_place(row)[-1]
