"""Ends: the mirrors that a row ends and begins with, its borders, and falling lengths as groups."""

from mirrorruns.errors import NoLengths
from mirrorruns.kinds import is_whole
from mirrorruns.reaches import reaches
from mirrorruns.rows import back, need_row


def ends(row):
    return ends_ahead(reaches(row), len(row))


# The ends of the signs ahead of the place behind. The reaches of the whole row do for them: around one middle
# just the stretches that are no longer than its reach are mirrors.
def ends_ahead(told, behind):
    return [behind - first for first in range(behind) if told[first + behind - 1] >= behind - first]


# For each place, the row's length among them, the ends of the signs ahead of it.
def ends_by_place(row):
    told = reaches(row)
    return [ends_ahead(told, behind) for behind in range(len(row) + 1)]


# A mirror turned about is the same text, so those that a row begins with end it when it is turned about.
def begins(row):
    return ends(back(row))


def borders(row):
    need_row(row)
    return [length for length in range(len(row) - 1, 0, -1) if row[:length] == row[len(row) - length:]]


def are_lengths(thing):
    if not isinstance(thing, list):
        return False
    if not all([is_whole(length) and length > 0 for length in thing]):
        return False
    return all([length > lesser for length, lesser in zip(thing, thing[1:])])


def steps(lengths):
    return [length - lesser for length, lesser in zip(lengths, lengths[1:] + [0])]


def groups(lengths):
    if not are_lengths(lengths):
        raise NoLengths("lengths are a list of whole numbers above 0 that fall")
    told = []
    for length, step in zip(lengths, steps(lengths)):
        if told != [] and told[-1][1] == step:
            told[-1] = (told[-1][0], step, told[-1][2] + 1)
        else:
            told.append((length, step, 1))
    return told
