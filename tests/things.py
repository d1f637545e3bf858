"""Things of whatever kind, which the tests hand in where something else is wanted."""

from copy import deepcopy


def nested(depth):
    thing = []
    for step in range(depth - 1):
        thing = [thing, (step,), {"a": step}]
    return thing


OTHER_KINDS = [
    None, True, False,
    0, 1, -1, 2, 7, 200, 10 ** 40 - 1, -(10 ** 40 - 1),
    [], [0], [0, 0], [0, 1], ["a"], ["a", "b", "a"], [[], []], [None],
    (), (0,), (0, 0), (0, 1), ("a",), ("a", "b", "a"), ((), ()), (None, None),
    {}, {0: 0}, {0: 0, 1: 1}, {"a": "a"}, {"a": [1, (2, {"b": None})]}, {(0, 1): True},
    nested(10),
]

TEXTS_THAT_ARE_NO_ROWS = [
    "A", "Z", "aBa", "AbA", "ABBA",
    "0", "1", "9", "1a1", "a1a",
    " ", "  ", " a", "a ", "a a", "ab ba",
    "\n", "a\n", "\na", "a\na", "\na\n", "aba\n", "a\r", "a\r\n", "\t", "a\ta",
    "`", "{", "@", "[", "a`a", "a{a", "-", "_", "a_a", "a-z", ".", "a.a", "\\", "'", '"', "\0", "a\0a", "\x7f",
    "a" * 201, "a" * 202, "ab" * 100 + "a", "a" * 100 + "b" + "a" * 100, "a" * 1000,
    "a" * 199 + "A", "A" + "a" * 199, "a" * 200 + "\n", "a" * 199 + "\n",
]

NO_ROWS = OTHER_KINDS + TEXTS_THAT_ARE_NO_ROWS


# repr tells True from 1 and a list from a tuple, which == does not or not everywhere.
def stays(ask, *handed):
    ahead = repr(deepcopy(handed))
    first = ask(*handed)
    again = ask(*handed)
    return repr(handed) == ahead and repr(first) == repr(again)
