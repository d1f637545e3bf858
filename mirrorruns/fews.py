"""Few mirrors and many: how many unlike mirrors rows have, the rows with the fewest, and full ones."""

from mirrorruns.errors import NoCount, TooMany
from mirrorruns.kinds import is_whole
from mirrorruns.rows import LETTERS, MOST_SIGNS
from mirrorruns.trees import tree

MOST_SPREAD_SIGNS = 9
MOST_SPREAD_LETTERS = 3
MOST_SPREAD_ROWS = 700

# By number of letters. Told again and again, each has the fewest unlike mirrors at every length; with a fourth letter
# there are no fewer than with three.
POOR_PARTS = {1: "a", 2: "aababb", 3: "abc"}


def kinds_many(row):
    return len(tree(row))


def is_full(row):
    return kinds_many(row) == len(row)


def need_counts(signs, most_signs, letters, most_letters):
    if not is_whole(signs) or not 0 <= signs <= most_signs:
        raise NoCount("there is no such number of signs here")
    if not is_whole(letters) or not 1 <= letters <= most_letters:
        raise NoCount("there is no such number of letters here")


def rows_many(signs, letters):
    many = 1
    for step in range(signs):
        many = many * letters
    return many


def rows_of(signs, letters):
    rows = [""]
    for step in range(signs):
        longer = []
        for row in rows:
            longer.extend([row + letter for letter in LETTERS[:letters]])
        rows = longer
    return rows


def spread(signs, letters):
    need_counts(signs, MOST_SPREAD_SIGNS, letters, MOST_SPREAD_LETTERS)
    if rows_many(signs, letters) > MOST_SPREAD_ROWS:
        raise TooMany("there are more than 700 such rows")
    kinds = [kinds_many(row) for row in rows_of(signs, letters)]
    return [kinds.count(number) for number in range(signs + 1)]


def poorest(signs, letters):
    need_counts(signs, MOST_SIGNS, letters, len(LETTERS))
    part = POOR_PARTS[min(letters, len(POOR_PARTS))]
    return (part * signs)[:signs]


# Each sign more of one letter brings a longer mirror, and each letter that comes for the first time brings itself.
def full_row(signs, letters):
    need_counts(signs, MOST_SIGNS, letters, len(LETTERS))
    unlike = min(signs, letters)
    return LETTERS[0] * (signs - unlike) + LETTERS[:unlike]
