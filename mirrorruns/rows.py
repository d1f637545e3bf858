"""Rows: what is one, what is a mirror, a row turned about, stretches that read alike."""

from mirrorruns.errors import NoMirror, NoRow
from mirrorruns.kinds import is_stretch

LETTERS = "abcdefghijklmnopqrstuvwxyz"
MOST_SIGNS = 200


# Sign by sign, as Python's own islower would let blanks, figures and line ends pass.
def is_row(thing):
    if not isinstance(thing, str) or len(thing) > MOST_SIGNS:
        return False
    return all([sign in LETTERS for sign in thing])


def need_row(thing):
    if not is_row(thing):
        raise NoRow("a row is a text of none to 200 letters a to z")


def is_mirror(thing):
    return is_row(thing) and thing != "" and thing == back(thing)


def need_mirror(thing):
    if not is_mirror(thing):
        raise NoMirror("a mirror is a row of one sign or more that reads alike from both ends")


def back(row):
    need_row(row)
    return row[::-1]


# A text without signs is its own back, so a stretch without signs needs no case of its own.
def reads_alike(row, thing):
    need_row(row)
    if not is_stretch(thing, len(row)):
        return False
    text = row[thing[0]:thing[1]]
    return text == back(text)
