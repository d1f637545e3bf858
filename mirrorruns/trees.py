"""Trees: each mirror of a row once, with its inner and its less."""

from mirrorruns.ends import ends_ahead
from mirrorruns.errors import NoMirror, NoNumber
from mirrorruns.kinds import is_same_number, is_whole
from mirrorruns.reaches import reaches
from mirrorruns.rows import is_mirror, need_row


# Of the mirrors that end at a place the longest alone can be new: each shorter one is a beginning of it too, and so
# stood in the row ahead. The text without signs never has a number, so get tells None for it.
def tree(row):
    far = reaches(row)
    numbers = {}
    told = []
    for behind in range(1, len(row) + 1):
        lengths = ends_ahead(far, behind) + [0]
        text = row[behind - lengths[0]:behind]
        less = row[behind - lengths[1]:behind]
        if text not in numbers:
            numbers[text] = len(told)
            told.append((text, numbers.get(text[1:-1]), numbers.get(less)))
    return told


def is_tree(thing, row):
    told = tree(row)
    if not isinstance(thing, list) or len(thing) != len(told):
        return False
    return all([is_entry(given, wanted) for given, wanted in zip(thing, told)])


def is_entry(thing, wanted):
    if not isinstance(thing, tuple) or len(thing) != 3 or thing[0] != wanted[0]:
        return False
    return is_elder(thing[1], wanted[1]) and is_elder(thing[2], wanted[2])


def is_elder(thing, wanted):
    if wanted is None:
        return thing is None
    return is_same_number(thing, wanted)


def number_of(row, text):
    need_row(row)
    if not is_mirror(text):
        raise NoMirror("a mirror is a row of one sign or more that reads alike from both ends")
    for number, entry in enumerate(tree(row)):
        if entry[0] == text:
            return number
    return None


def way(row, number):
    told = tree(row)
    if not is_whole(number) or not 0 <= number < len(told):
        raise NoNumber("the numbers of a row's tree are the whole numbers from 0 on, one for each of its mirrors")
    passed = []
    step = number
    while step is not None:
        passed.append(step)
        step = told[step][2]
    return passed
