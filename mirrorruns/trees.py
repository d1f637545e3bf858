"""Trees: each mirror of a row once, with its inner and its less."""

from mirrorruns.ends import ends_by_place
from mirrorruns.errors import NoNumber
from mirrorruns.kinds import is_same_number, is_whole
from mirrorruns.rows import need_mirror, need_row


# Of the mirrors that end at a place the longest alone can be new: each shorter one is a beginning of it too, and so
# stood in the row ahead.
def tree(row):
    lengths = ends_by_place(row)
    numbers = {}
    told = []
    for behind in range(1, len(row) + 1):
        entry = longest_entry(row[:behind], lengths[behind], numbers)
        if entry[0] not in numbers:
            numbers[entry[0]] = len(told)
            told.append(entry)
    return told


# What the tree has of the longest of a row's ends. Its inner and its less stood in the row ahead, so numbers has them;
# the text without signs never has a number, so get tells None for it.
def longest_entry(row, lengths, numbers):
    text = row[len(row) - lengths[0]:]
    less = text[len(text) - lengths[1]:] if len(lengths) > 1 else ""
    return (text, numbers.get(text[1:-1]), numbers.get(less))


def is_tree(thing, row):
    told = tree(row)
    if not isinstance(thing, list) or len(thing) != len(told):
        return False
    return all([is_entry(given, wanted) for given, wanted in zip(thing, told)])


def is_entry(thing, wanted):
    if not isinstance(thing, tuple) or len(thing) != 3 or thing[0] != wanted[0]:
        return False
    return is_elder(thing[1], wanted[1]) and is_elder(thing[2], wanted[2])


def is_elder(thing, wanted):
    if wanted is None:
        return thing is None
    return is_same_number(thing, wanted)


def number_of(row, text):
    need_row(row)
    need_mirror(text)
    for number, entry in enumerate(tree(row)):
        if entry[0] == text:
            return number
    return None


def way(row, number):
    told = tree(row)
    if not is_whole(number) or not 0 <= number < len(told):
        raise NoNumber("the numbers of a row's tree are the whole numbers from 0 on, one for each of its mirrors")
    passed = []
    step = number
    while step is not None:
        passed.append(step)
        step = told[step][2]
    return passed
