import unittest

from mirrorruns.ends import ends
from mirrorruns.errors import NoMirror, NoNumber, NoRow
from mirrorruns.rows import is_mirror
from mirrorruns.trees import is_tree, number_of, tree, way
from things import (
    ALPHABET, GREAT, NO_MIRRORS, NO_NUMBERS, NO_ROWS, all_rows, is_own, long_rows, middling_rows, refused_by,
    same_from_both_ends, small_rows, stays, told, tree_by_stretches,
)

ROWS = all_rows("ab", 8) + all_rows("abc", 5) + middling_rows()
FEW_ROWS = ["a", "aa", "ab", "aba", "abba", "aabaa", "abcab", "banana", "aaabaaa"]


def with_one_entry_as(right, number, entry):
    return right[:number] + [entry] + right[number + 1:]


def changed_entries(entry):
    text, inner, less = entry
    for other in (
        "", text + "a", "z" + text, text[1:], text.upper(), text + "\n", "z", "zz" * len(text), None, 0, 1, True,
        [text], (text,), {text: text}, list(text), "a" * 5000,
    ):
        if other != text:
            yield (other, inner, less)
    for other in other_numbers(inner):
        yield (text, other, less)
    for other in other_numbers(less):
        yield (text, inner, other)
    if inner != less:
        yield (text, less, inner)
    yield from ([text, inner, less], (), (text,), (text, inner), (inner, less), (text, inner, less, None))
    yield from ((text, inner, less, less), (inner, less, text), (entry,), [entry], text, {}, None, 0, True)
    yield {0: text, 1: inner, 2: less}
    yield {text: (inner, less)}


def other_numbers(number):
    for other in (-1, 0, 1, 2, 3, 4, 5, 6, 7, GREAT, -GREAT, None):
        if other != number:
            yield other
    yield from (True, False, "", "None", str(number), [number], (number,), {}, {number: number}, [], ())


class Tree(unittest.TestCase):
    def test_told_by_hand(self):
        for row, wanted in (
            ("", []),
            ("a", [("a", None, None)]),
            ("ab", [("a", None, None), ("b", None, None)]),
            ("aa", [("a", None, None), ("aa", None, 0)]),
            ("aba", [("a", None, None), ("b", None, None), ("aba", 1, 0)]),
            ("abba", [("a", None, None), ("b", None, None), ("bb", None, 1), ("abba", 2, 0)]),
            ("abab", [("a", None, None), ("b", None, None), ("aba", 1, 0), ("bab", 0, 1)]),
            ("abca", [("a", None, None), ("b", None, None), ("c", None, None)]),
            ("aaabaaa", [
                ("a", None, None), ("aa", None, 0), ("aaa", 0, 1), ("b", None, None), ("aba", 3, 0), ("aabaa", 4, 1),
                ("aaabaaa", 5, 2),
            ]),
        ):
            with self.subTest(row):
                self.assertEqual(told(tree, row), repr(wanted))

    def test_against_all_mirrors(self):
        for row in ROWS:
            self.assertEqual(told(tree, row), repr(tree_by_stretches(row)), row)

    def test_rows_of_about_200_signs(self):
        for row in long_rows():
            with self.subTest(row):
                self.assertEqual(told(tree, row), repr(tree_by_stretches(row)))

    def test_inner_and_less_are_elder(self):
        for row in ROWS + long_rows():
            for number, (text, inner, less) in enumerate(tree(row)):
                self.assertIs(is_mirror(text), True)
                self.assertIs(inner is None, len(text) < 3, row)
                self.assertIs(less is None, len(text) < 2, row)
                for elder in (inner, less):
                    self.assertTrue(elder is None or 0 <= elder < number, row)

    def test_the_list_is_the_askers_own(self):
        for row in ("", "a", "aabaa"):
            with self.subTest(row):
                self.assertTrue(is_own(tree, row))
                self.assertTrue(stays(tree, row))


class IsTree(unittest.TestCase):
    def refused_as_tree(self, thing, row):
        self.assertIs(is_tree(thing, row), False, (thing, row))

    def test_the_very_tree(self):
        for row in ROWS + long_rows():
            self.assertIs(is_tree(tree(row), row), True, row)
            self.assertIs(is_tree(tree_by_stretches(row), row), True, row)

    def test_an_entry_left_out_or_twice(self):
        for row in FEW_ROWS:
            right = tree_by_stretches(row)
            for number, entry in enumerate(right):
                self.refused_as_tree(right[:number] + right[number + 1:], row)
                for place in range(len(right) + 1):
                    self.refused_as_tree(right[:place] + [entry] + right[place:], row)

    def test_an_entry_in_the_place_of_another_one(self):
        for row in FEW_ROWS:
            right = tree_by_stretches(row)
            for one in range(len(right)):
                for other in range(one):
                    self.refused_as_tree(with_one_entry_as(right, one, right[other]), row)
                    exchanged = with_one_entry_as(right, one, right[other])
                    exchanged[other] = right[one]
                    self.refused_as_tree(exchanged, row)

    def test_an_entry_changed(self):
        for row in FEW_ROWS:
            right = tree_by_stretches(row)
            for number, entry in enumerate(right):
                for other in changed_entries(entry):
                    self.refused_as_tree(with_one_entry_as(right, number, other), row)

    def test_an_entry_more(self):
        for row in FEW_ROWS + [""]:
            right = tree_by_stretches(row)
            for entry in (("z", None, None), ("", None, None), (), None, [], "a", 0):
                self.refused_as_tree(right + [entry], row)
                self.refused_as_tree([entry] + right, row)

    def test_of_another_row(self):
        rows = all_rows("ab", 4) + all_rows("abc", 3)
        trees = [tree_by_stretches(row) for row in rows]
        for row, right in zip(rows, trees):
            for other in trees:
                self.assertIs(is_tree(other, row), other == right, (row, other))

    def test_things_of_other_kinds(self):
        for row in FEW_ROWS:
            right = tree_by_stretches(row)
            things = [row, tuple(right), [right], (right,), str(right), dict(enumerate(right)), right[::-1] + [None]]
            things.append([list(entry) for entry in right])
            things.append({text: (inner, less) for text, inner, less in right})
            things.append([text for text, inner, less in right])
            for thing in NO_ROWS + things:
                self.refused_as_tree(thing, row)

    def test_the_row_without_signs(self):
        self.assertIs(is_tree([], ""), True)
        for thing in NO_ROWS + ["", "a", [[]], [()], [("", None, None)]]:
            if thing != []:
                self.refused_as_tree(thing, "")

    def test_nothing_is_changed_and_the_answer_stays(self):
        right = tree_by_stretches("aba")
        for thing in NO_ROWS + [right, right[::-1], right[:2] + [["aba", 1, 0]], right[:2] + [("aba", True, 0)]]:
            with self.subTest(thing):
                self.assertTrue(stays(is_tree, thing, "aba"))


class NumberOf(unittest.TestCase):
    def test_each_mirror_of_the_row(self):
        for row in small_rows() + middling_rows() + long_rows()[4:7]:
            for number, entry in enumerate(tree_by_stretches(row)):
                self.assertEqual(told(number_of, row, entry[0]), repr(number), row)

    def test_mirrors_of_few_signs_whether_they_stand_there_or_not(self):
        mirrors = [text for text in all_rows("abc", 5) if text != "" and same_from_both_ends(text)]
        for row in all_rows("ab", 5) + all_rows("abc", 3):
            texts = [entry[0] for entry in tree_by_stretches(row)]
            for text in mirrors:
                wanted = texts.index(text) if text in row else None
                self.assertEqual(told(number_of, row, text), repr(wanted), (row, text))

    def test_mirrors_that_do_not_stand_there(self):
        for row in ("", "ab", "abab", "a" * 199 + "b"):
            for text in ("z", "zz", "bb", "bbb", "aza", "a" * 200, "z" * 200):
                with self.subTest(row=row, text=text):
                    self.assertIs(number_of(row, text), None)

    def test_what_is_no_mirror(self):
        for row in ("", "a", "ab", "abab", "abc", ALPHABET, "a" * 200):
            for thing in NO_MIRRORS:
                with self.subTest(row=row, thing=thing):
                    self.assertIs(refused_by(number_of, row, thing), NoMirror)

    def test_the_answer_stays(self):
        self.assertTrue(stays(number_of, "aba", "aba"))
        self.assertTrue(stays(number_of, "aba", "c"))


class Way(unittest.TestCase):
    def test_told_by_hand(self):
        for row, number, wanted in (
            ("a", 0, [0]), ("aa", 0, [0]), ("aa", 1, [1, 0]), ("aba", 1, [1]), ("aba", 2, [2, 0]),
            ("aaabaaa", 6, [6, 2, 1, 0]), ("aaabaaa", 5, [5, 1, 0]), ("aaabaaa", 3, [3]),
        ):
            with self.subTest(row=row, number=number):
                self.assertEqual(told(way, row, number), repr(wanted))

    def test_each_number(self):
        for row in small_rows() + middling_rows() + long_rows()[4:7]:
            entries = tree_by_stretches(row)
            texts = [entry[0] for entry in entries]
            for number, text in enumerate(texts):
                ending = [text[place:] for place in range(len(text)) if same_from_both_ends(text[place:])]
                self.assertEqual(told(way, row, number), repr([texts.index(one) for one in ending]), (row, number))

    def test_numbers_beyond(self):
        for row in ("a", "ab", "aba", "abca", "abcabc", "a" * 200, (ALPHABET * 8)[:200]):
            many = len(tree_by_stretches(row))
            for number in (-1, -2, -many, many, many + 1, GREAT, -GREAT):
                with self.subTest(row=row, number=number):
                    self.assertIs(refused_by(way, row, number), NoNumber)

    def test_things_of_other_kinds(self):
        for row in ("a", "aba", "a" * 200):
            for thing in NO_NUMBERS:
                with self.subTest(row=row, thing=thing):
                    self.assertIs(refused_by(way, row, thing), NoNumber)

    def test_the_row_without_signs_has_none(self):
        for thing in NO_NUMBERS + [0, 1, -1, GREAT, -GREAT]:
            with self.subTest(thing):
                self.assertIs(refused_by(way, "", thing), NoNumber)

    def test_the_list_is_the_askers_own(self):
        self.assertTrue(is_own(way, "aaa", 2))
        self.assertTrue(stays(way, "aaa", 2))


class WhatFollows(unittest.TestCase):
    def test_the_tree_of_each_beginning_is_a_beginning_of_the_tree(self):
        for row in ROWS + long_rows():
            whole = tree(row)
            for length in range(0, len(row) + 1, 1 if len(row) < 100 else 17):
                part = tree(row[:length])
                self.assertEqual(part, whole[:len(part)], (row, length))

    def test_each_sign_brings_one_mirror_at_most_the_longest_end(self):
        for row in middling_rows() + all_rows("ab", 8)[-256:] + all_rows("abc", 5)[-243:]:
            ahead = 0
            for length in range(1, len(row) + 1):
                part = tree(row[:length])
                self.assertIn(len(part) - ahead, (0, 1), (row, length))
                if len(part) > ahead:
                    self.assertEqual(len(part[-1][0]), ends(row[:length])[0], (row, length))
                ahead = len(part)

    def test_as_many_mirrors_as_signs_at_most(self):
        for row in ROWS + long_rows():
            self.assertLessEqual(len(tree(row)), len(row))

    def test_the_lengths_along_the_way_of_the_longest_end_are_the_ends(self):
        for row in ROWS + long_rows():
            if row != "":
                lengths = ends(row)
                texts = [entry[0] for entry in tree(row)]
                number = number_of(row, row[len(row) - lengths[0]:])
                self.assertEqual([len(texts[one]) for one in way(row, number)], lengths, row)


class NoRowAheadOfAllElse(unittest.TestCase):
    def test_of_one_thing(self):
        for thing in NO_ROWS:
            with self.subTest(thing):
                self.assertIs(refused_by(tree, thing), NoRow)

    def test_of_two_things(self):
        for thing in NO_ROWS:
            for other in (0, 1, -1, GREAT, True, None, "a", "A", "", "ab", [], [0], [("a", None, None)], (), {}, thing):
                with self.subTest(thing=thing, other=other):
                    self.assertIs(refused_by(is_tree, other, thing), NoRow)
                    self.assertIs(refused_by(number_of, thing, other), NoRow)
                    self.assertIs(refused_by(way, thing, other), NoRow)


if __name__ == "__main__":
    unittest.main()
