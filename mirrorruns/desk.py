"""A desk: it keeps a row, is told lines, and answers with texts."""

from mirrorruns.cuts import cuts_many, cuts_of, fewest, fewest_even
from mirrorruns.ends import ends
from mirrorruns.errors import Bare, NoLine, TooMany
from mirrorruns.fews import is_full, kinds_many
from mirrorruns.mends import mended_ahead, mended_behind, signs_more
from mirrorruns.reaches import longest
from mirrorruns.rows import MOST_SIGNS, back, is_row
from mirrorruns.trees import tree

FIGURES = "0123456789"
MOST_FIGURES = 4


def text_or_none(text):
    return text if text != "" else "none"


def tell_row(row):
    return text_or_none(row)


def tell_back(row):
    return text_or_none(back(row))


def tell_kinds(row):
    return str(kinds_many(row))


def tell_full(row):
    return "yes" if is_full(row) else "no"


def tell_last(row):
    return text_or_none(row[len(row) - max(ends(row), default=0):])


def tell_tree(row):
    return text_or_none(" ".join([entry[0] for entry in tree(row)]))


def tell_longest(row):
    stretch = longest(row)
    if stretch is None:
        return text_or_none("")
    first = stretch[0]
    behind = stretch[1]
    return f"{first}-{behind}"


def tell_fewest(row):
    return str(fewest(row))


def tell_cuts(row):
    return str(cuts_many(row))


def tell_even(row):
    least = fewest_even(row)
    return "never" if least is None else str(least)


def tell_more(row):
    return str(signs_more(row))


def tell_behind(row):
    return text_or_none(mended_behind(row))


def tell_ahead(row):
    return text_or_none(mended_ahead(row))


ASKED = {
    "row": tell_row,
    "back": tell_back,
    "kinds": tell_kinds,
    "full": tell_full,
    "last": tell_last,
    "tree": tell_tree,
    "longest": tell_longest,
    "fewest": tell_fewest,
    "cuts": tell_cuts,
    "even": tell_even,
    "more": tell_more,
    "behind": tell_behind,
    "ahead": tell_ahead,
}


def is_number(word):
    if not 1 <= len(word) <= MOST_FIGURES or not all([sign in FIGURES for sign in word]):
        return False
    return word == "0" or word[0] != "0"


def with_added(row, more):
    if len(row) + len(more) > MOST_SIGNS:
        raise TooMany("a row has 200 signs at most")
    return row + more


def with_taken(row, many):
    if many > len(row):
        raise Bare("there are fewer signs to take away")
    return row[:len(row) - many]


# The row as the line leaves it; None where it is no line that changes it.
def row_behind(row, words):
    if words == ["clear"]:
        return ""
    if words == ["take"]:
        return with_taken(row, 1)
    if len(words) == 2 and words[0] == "take" and is_number(words[1]):
        return with_taken(row, int(words[1]))
    if len(words) == 2 and words[0] == "add" and is_row(words[1]) and words[1] != "":
        return with_added(row, words[1])
    return None


def answer_to(row, words):
    if len(words) == 1 and words[0] in ASKED:
        tell = ASKED[words[0]]
        return tell(row)
    if len(words) == 2 and words[0] == "cuts" and is_number(words[1]):
        return str(cuts_of(row, int(words[1])))
    raise NoLine("this is no line that a desk is told")


class Desk:
    def __init__(self):
        self.kept = ""

    def say(self, line):
        if not isinstance(line, str):
            raise NoLine("a line is a text")
        words = line.split(" ")
        changed = row_behind(self.kept, words)
        if changed is None:
            return answer_to(self.kept, words)
        self.kept = changed
        return str(len(changed))
