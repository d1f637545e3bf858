"""Rows and things of whatever kind, which the tests hand in, and other ways than the program's to look at them."""

from copy import deepcopy
from itertools import product

ALPHABET = "abcdefghijklmnopqrstuvwxyz"
GREAT = 10 ** 40 - 1


def nested(depth, innermost):
    thing = innermost
    for step in range(depth - 1):
        thing = [thing, (step,), {"a": step}]
    return thing


OTHER_KINDS = [
    None, True, False,
    0, 1, -1, 2, 7, 200, GREAT, -GREAT,
    [], [0], [0, 0], [0, 1], ["a"], ["a", "b", "a"], [[], []], [None],
    (), (0,), (0, 0), (0, 1), ("a",), ("a", "b", "a"), ((), ()), (None, None),
    {}, {0: 0}, {0: 0, 1: 1}, {"a": "a"}, {"a": [1, (2, {"b": None})]}, {(0, 1): True},
    nested(10, []), nested(10, ["a" * 5000]), ["a" * 5000], ("a" * 5000,), {"a" * 5000: "b" * 5000},
]

TEXTS_THAT_ARE_NO_ROWS = [
    "A", "Z", "aBa", "AbA", "ABBA",
    "0", "1", "9", "1a1", "a1a",
    " ", "  ", " a", "a ", "a a", "ab ba",
    "\n", "a\n", "\na", "a\na", "\na\n", "aba\n", "a\r", "a\r\n", "\t", "a\ta",
    "`", "{", "@", "[", "a`a", "a{a", "-", "_", "a_a", "a-z", ".", "a.a", "\\", "'", '"', "\0", "a\0a", "\x7f",
    "a" * 201, "a" * 202, "ab" * 100 + "a", "a" * 100 + "b" + "a" * 100, "a" * 1000,
    "a" * 199 + "A", "A" + "a" * 199, "a" * 200 + "\n", "a" * 199 + "\n",
]

NO_ROWS = OTHER_KINDS + TEXTS_THAT_ARE_NO_ROWS

NO_MIRRORS = NO_ROWS + ["", "ab", "abc", "aab", "abab", "a" * 199 + "b", ALPHABET]

NO_NUMBERS = TEXTS_THAT_ARE_NO_ROWS + ["", "a", "aba", "abc"] + [
    thing for thing in OTHER_KINDS if thing.__class__ is not int
]


def all_rows(letters, longest):
    return ["".join(signs) for length in range(longest + 1) for signs in product(letters, repeat=length)]


def small_rows():
    return all_rows("ab", 7) + all_rows("abc", 4)[1:] + all_rows("xyz", 3)[1:]


# By a rule of its own, so that each run of the tests has the same rows.
def mixed_row(seed, length, letters):
    signs = []
    state = seed
    for _ in range(length):
        state = (state * 1103515245 + 12345) % 2 ** 31
        signs.append(letters[(state >> 16) % len(letters)])
    return "".join(signs)


# Each one is the two ahead together: such rows have mirrors of many lengths, which end in groups with unlike steps.
def joined_row(one, other, length):
    while len(other) < length:
        one, other = other, other + one
    return other[:length]


def middling_rows():
    rows = ["a" * length for length in (8, 9, 15, 40)]
    for part in ("ab", "aab", "aba", "abc", "abba", "aabab", "abcacb", "abaab"):
        rows.extend((part * 40)[:length] for length in (10, 21, 40))
    for seed in range(12):
        rows.append(mixed_row(seed, 12 + 2 * seed, "ab"))
        rows.append(mixed_row(seed + 50, 5 + 3 * seed, "abc"))
    for length in (1, 5, 12, 19):
        half = mixed_row(length, length, "ab")
        rows.extend((half + half[::-1], half + "c" + half[::-1]))
    rows.extend(joined_row("a", "ab", length) for length in (11, 19, 24, 32, 40))
    rows.extend(("aaabaaa", "aabaabbaabaa", "abacabadabacaba", "baabaab", "racecar", "banana"))
    return rows + [ALPHABET, ALPHABET[::-1]]


def long_rows():
    half = mixed_row(7, 100, "abc")
    return [
        "a" * 200, "ab" * 100, "a" * 199 + "b", "a" * 99 + "b" + "a" * 100, (ALPHABET * 8)[:200],
        mixed_row(3, 200, "ab"), half + half[::-1], half[:99] + "q" + half[:99][::-1], joined_row("a", "ab", 200),
    ]


# Sign against sign, from both ends: another way than the program's.
def same_from_both_ends(text):
    for place in range(len(text)):
        if text[place] != text[len(text) - 1 - place]:
            return False
    return True


def mirror_stretches(row):
    pairs = [(first, behind) for first in range(len(row)) for behind in range(first + 1, len(row) + 1)]
    return [(first, behind) for first, behind in pairs if same_from_both_ends(row[first:behind])]


# All mirrors of the row, by where the first stretch of each one ends.
def tree_by_stretches(row):
    first_end = {}
    for first, behind in mirror_stretches(row):
        text = row[first:behind]
        first_end[text] = min(behind, first_end.get(text, behind))
    texts = sorted(first_end, key=first_end.get)
    number = {text: place for place, text in enumerate(texts)}
    answer = []
    for text in texts:
        shorter = [text[place:] for place in range(1, len(text)) if same_from_both_ends(text[place:])]
        less = number[shorter[0]] if shorter else None
        answer.append((text, number[text[1:-1]] if len(text) > 2 else None, less))
    return answer


# repr tells True from 1 and a list from a tuple, which == does not or not everywhere.
def stays(ask, *handed):
    ahead = repr(deepcopy(handed))
    first = ask(*handed)
    again = ask(*handed)
    return repr(handed) == ahead and repr(first) == repr(again)


def told(ask, *handed):
    """The answer as a text: repr tells kinds apart that == takes for alike."""
    return repr(ask(*handed))


def refused_by(ask, *handed):
    """The very class of the refusal, None where nothing is refused; what is handed in must stay as it was."""
    ahead = repr(handed)
    try:
        ask(*handed)
    except ValueError as error:
        return error.__class__ if repr(handed) == ahead else "changed"
    return None


# From within: what is told within a list, dict or tuple has to be the asker's own too.
def spoil(thing):
    if isinstance(thing, dict):
        for value in list(thing.values()):
            spoil(value)
        thing.clear()
        thing["more"] = "more"
    elif isinstance(thing, (list, tuple)):
        for member in thing:
            spoil(member)
    if isinstance(thing, list):
        thing.reverse()
        thing.clear()
        thing.append("more")


def is_own(ask, *handed):
    """Whether what is told is new each time: what is done to one answer changes no other."""
    first = ask(*handed)
    second = ask(*handed)
    wanted = repr(first)
    spoil(first)
    unspoilt = repr(second) == wanted
    spoil(second)
    return unspoilt and repr(ask(*handed)) == wanted
