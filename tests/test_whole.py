"""What the document promises over the whole program, and that the interface stands as it is told."""

import unittest
from copy import deepcopy
from importlib import import_module
from inspect import isclass, signature

from mirrorruns.cuts import are_bounds, bounds, cut, fewest, is_cut
from mirrorruns.desk import Desk
from mirrorruns.errors import NoRow
from mirrorruns.grower import Grower
from mirrorruns.mends import is_mend_table, lies_in, mend_table, mended, signs_more
from mirrorruns.rows import is_mirror
from mirrorruns.trees import is_tree, tree
from things import NO_ROWS, all_rows, is_own, long_rows, middling_rows, mirror_stretches, mixed_row, refused_by, told

ROWS = all_rows("ab", 7) + all_rows("abc", 5)[1:] + middling_rows()
INTERFACE = {
    "rows": ["is_row(thing)", "is_mirror(thing)", "back(row)", "reads_alike(row, thing)"],
    "reaches": [
        "reaches(row)", "reach(row, middle)", "are_reaches(thing, row)", "mirrors_many(row)", "longest(row)",
    ],
    "ends": ["ends(row)", "begins(row)", "borders(row)", "groups(lengths)"],
    "trees": ["tree(row)", "is_tree(thing, row)", "number_of(row, text)", "way(row, number)"],
    "grower": ["Grower()"],
    "often": ["often(row)", "stretches(row, text)", "deeps(row)", "tops(row)", "worthiest(row)"],
    "cuts": [
        "is_cut(thing, row)", "fewest(row)", "cut(row)", "are_bounds(thing, row)", "bounds(row)", "cuts_many(row)",
        "cuts_of(row, count)", "even_ends(row)", "fewest_even(row)",
    ],
    "mends": [
        "lies_in(row, other, places)", "signs_more(row)", "mended(row)", "rest(row)", "mend_table(row)",
        "is_mend_table(thing, row)", "mended_behind(row)", "mended_ahead(row)",
    ],
    "fews": [
        "kinds_many(row)", "is_full(row)", "spread(signs, letters)", "poorest(signs, letters)",
        "full_row(signs, letters)",
    ],
    "backs": ["are_form(thing)", "alike_places(reaches)", "unlike_places(reaches)", "row_for(reaches)"],
    "desk": ["Desk()"],
}
METHODS = {
    Grower: ["add(sign)", "take()", "row()", "many()", "ends()", "tree()", "mirrors_many()"],
    Desk: ["say(line)"],
}


def part(module, written):
    return getattr(import_module("mirrorruns." + module), written.partition("(")[0])


def arguments(written):
    inside = written.partition("(")[2][:-1]
    return inside.split(", ") if inside else []


def functions():
    return [(part(module, written), arguments(written)) for module, some in INTERFACE.items() for written in some
            if not isclass(part(module, written))]


# Something right for each argument but the row, so that the row alone is to be refused.
def fitting(name):
    numbers = {"middle": 0, "number": 0, "count": 1}
    return numbers.get(name, [] if name in ("places", "thing") else "a")


class Interface(unittest.TestCase):
    def test_functions_and_their_arguments(self):
        for ask, wanted in functions():
            self.assertEqual(list(signature(ask).parameters), wanted, ask)

    def test_classes_and_their_methods(self):
        for made, written in METHODS.items():
            self.assertEqual(list(signature(made).parameters), [])
            for one in written:
                method = getattr(made(), one.partition("(")[0])
                self.assertEqual(list(signature(method).parameters), arguments(one), one)


# [5]
class NoRowAheadOfAllElse(unittest.TestCase):
    def test_in_each_function_that_is_handed_a_row(self):
        asked = 0
        for ask, names in functions():
            for place, name in enumerate(names):
                if name in ("row", "other"):
                    asked += 1
                    for thing in NO_ROWS:
                        handed = [fitting(name) for name in names]
                        handed[place] = thing
                        self.assertIs(refused_by(ask, *handed), NoRow, (ask, thing))
                        self.assertIs(refused_by(ask, *[thing for _ in names]), NoRow, (ask, thing))
        self.assertGreater(asked, 35)


# [4]
class TheAskersOwn(unittest.TestCase):
    def test_what_is_told_of_a_row_is_new_each_time(self):
        for ask, names in functions():
            if names == ["row"]:
                for row in ("", "a", "abca", "aabaa"):
                    with self.subTest(ask=ask, row=row):
                        self.assertTrue(is_own(ask, row))

    def test_asked_in_whatever_order_the_same(self):
        of_a_row = [ask for ask, names in functions() if names == ["row"]]
        first = {(ask, row): told(ask, row) for ask in of_a_row for row in ("abcab", "", "aabaa", "a" * 60)}
        for ask, row in reversed(list(first)):
            self.assertEqual(told(ask, row), first[(ask, row)])


# [6]
class Cuts(unittest.TestCase):
    def test_the_told_cut_is_one_and_numbers_bar_fewer(self):
        for row in ROWS + long_rows():
            some = cut(row)
            numbers = bounds(row)
            self.assertIs(is_cut(some, row), True, row)
            self.assertTrue(all(is_mirror(row[first:behind]) for first, behind in some), row)
            self.assertIs(are_bounds(numbers, row), True, row)
            self.assertTrue(len(some) == fewest(row) == numbers[-1], row)

    # Numbers made by anybody: any list at all, pulled down until it keeps to the words.
    def test_whoever_made_the_numbers_they_bar_fewer(self):
        for seed, row in enumerate(ROWS[::5] + long_rows()[:3]):
            numbers = [0] + [ord(sign) - ord("f") for sign in mixed_row(seed, len(row), "abcdefghijklmnop")]
            for first, behind in sorted(mirror_stretches(row), key=lambda stretch: stretch[1]):
                numbers[behind] = min(numbers[behind], numbers[first] + 1)
            self.assertIs(are_bounds(numbers, row), True, row)
            self.assertLessEqual(numbers[-1], len(cut(row)), row)


class Mends(unittest.TestCase):
    def test_the_told_mirror_is_one_and_a_table_shows_that_fewer_do_not(self):
        for row in [row for row in ROWS if len(row) <= 60]:
            text, places = mended(row)
            table = mend_table(row)
            self.assertIs(is_mirror(text), row != "", row)
            self.assertIs(lies_in(row, text, places), True, row)
            self.assertIs(is_mend_table(table, row), True, row)
            self.assertTrue(len(text) - len(row) == signs_more(row) == table.get((0, len(row)), 0), row)


class Trees(unittest.TestCase):
    def test_each_mirror_of_the_row_once(self):
        for row in ROWS + long_rows():
            texts = [entry[0] for entry in tree(row)]
            self.assertEqual(sorted(texts), sorted({row[first:behind] for first, behind in mirror_stretches(row)}), row)

    def test_grown_and_taken_back_in_whatever_order(self):
        for seed in range(40):
            grower = Grower()
            stands = ""
            for turn in mixed_row(seed, 60, "abcabtt"):
                if turn != "t":
                    grower.add(turn)
                    stands += turn
                elif stands != "":
                    grower.take()
                    stands = stands[:-1]
            self.assertEqual(grower.row(), stands)
            self.assertIs(is_tree(grower.tree(), stands), True, stands)


# [3]: what was told may be handed in again, whatever its size.
class HandedInAgain(unittest.TestCase):
    def test_large_answers(self):
        row = "a" * 200
        self.assertIs(is_tree(tree(row), row), True)
        for thing in (tree(row), mend_table("a" * 60), bounds(row), cut(row)):
            kept = deepcopy(thing)
            for ask, names in functions():
                if names == ["thing", "row"]:
                    self.assertIn(ask(thing, "a" * 60), (True, False))
                elif names == ["thing"]:
                    self.assertIn(ask(thing), (True, False))
            self.assertEqual(thing, kept)


if __name__ == "__main__":
    unittest.main()
