import unittest

from mirrorruns.errors import NoRow
from mirrorruns.rows import back, is_mirror, is_row, need_row, reads_alike
from things import ALPHABET, NO_ROWS, OTHER_KINDS, TEXTS_THAT_ARE_NO_ROWS, same_from_both_ends, small_rows, stays

PAIRS_OF_NO_STRETCH = [
    (0, 4), (3, 4), (4, 4), (201, 201), (0, 10 ** 40 - 1), (10 ** 40 - 1, 10 ** 40 - 1),
    (-1, 0), (-1, 1), (-1, -1), (-3, -1), (-3, 0), (0, -1), (-(10 ** 40 - 1), 3),
    (1, 0), (3, 0), (2, 1), (3, 2),
    (False, True), (False, False), (True, True), (0, True), (False, 1), (0, False), (True, 3), (1, True),
    (), (0,), (3,), (0, 0, 0), (0, 1, 2), (0, 3, 3), (0, 3, None),
    ("0", "1"), ("a", "a"), ("", ""), (0, "1"), ("0", 1), (None, None), (0, None), (None, 3),
    ([0], [1]), ((0,), (1,)), ((0, 1), (0, 1)), ((0, 1),), ([0, 1],), ({}, {}), (0, []),
]
NO_STRETCHES = PAIRS_OF_NO_STRETCH + TEXTS_THAT_ARE_NO_ROWS + [
    "", "a", "ab", "aba", "abc", "01", "0-1",
] + [thing for thing in OTHER_KINDS if repr(thing) not in ("(0, 0)", "(0, 1)")]


class IsRow(unittest.TestCase):
    def test_lengths(self):
        for length, wanted in ((0, True), (1, True), (2, True), (199, True), (200, True), (201, False), (400, False)):
            with self.subTest(length):
                self.assertIs(is_row("q" * length), wanted)

    def test_all_letters(self):
        self.assertIs(is_row(ALPHABET), True)
        for letter in ALPHABET:
            with self.subTest(letter):
                self.assertIs(is_row(letter), True)

    def test_each_other_sign_wherever_it_stands(self):
        for code in range(128):
            sign = chr(code)
            for text in (sign, sign + "ab", "a" + sign + "b", "ab" + sign):
                with self.subTest(text=text):
                    self.assertIs(is_row(text), sign in ALPHABET)

    def test_texts_that_are_no_rows(self):
        for text in TEXTS_THAT_ARE_NO_ROWS:
            with self.subTest(text):
                self.assertIs(is_row(text), False)

    def test_things_of_other_kinds(self):
        for thing in OTHER_KINDS:
            with self.subTest(thing):
                self.assertIs(is_row(thing), False)

    def test_nothing_is_changed_and_the_answer_stays(self):
        for thing in NO_ROWS + ["", "a", "aba"]:
            with self.subTest(thing):
                self.assertTrue(stays(is_row, thing))


class IsMirror(unittest.TestCase):
    def test_the_row_without_signs_is_none(self):
        self.assertIs(is_mirror(""), False)

    def test_even_and_odd_mirrors(self):
        for text in ("a", "z", "aa", "aba", "abba", "aaa", "abcba", "abccba", "racecar", "noon"):
            with self.subTest(text):
                self.assertIs(is_mirror(text), True)

    def test_rows_that_are_none(self):
        for text in ("ab", "aab", "abb", "abab", "abca", "abcda", "abcab", ALPHABET):
            with self.subTest(text):
                self.assertIs(is_mirror(text), False)

    def test_small_rows_against_the_words(self):
        for row in small_rows():
            with self.subTest(row):
                self.assertIs(is_mirror(row), row != "" and same_from_both_ends(row))

    def test_long_ones(self):
        half = (ALPHABET * 4)[:100]
        self.assertIs(is_mirror(half + half[::-1]), True)
        self.assertIs(is_mirror(half[:99] + "qq" + half[:99][::-1]), True)
        self.assertIs(is_mirror(half[:99] + "q" + half[:99][::-1]), True)
        self.assertIs(is_mirror("a" * 200), True)
        self.assertIs(is_mirror("a" * 199 + "b"), False)
        self.assertIs(is_mirror("a" * 99 + "b" + "a" * 100), False)
        self.assertIs(is_mirror("a" * 201), False)
        self.assertIs(is_mirror(half + "q" + half[::-1]), False)

    def test_texts_alike_from_both_ends_that_are_no_rows(self):
        for text in ("A", "ABA", "aBa", "1", "121", "a1a", " ", "a a", " a ", "\n", "a\na", "\na\n", "--", "a-a"):
            with self.subTest(text):
                self.assertIs(is_mirror(text), False)

    def test_things_that_are_no_rows(self):
        for thing in NO_ROWS:
            with self.subTest(thing):
                self.assertIs(is_mirror(thing), False)

    def test_nothing_is_changed_and_the_answer_stays(self):
        for thing in NO_ROWS + ["", "a", "aba", "ab"]:
            with self.subTest(thing):
                self.assertTrue(stays(is_mirror, thing))


class Refusals(unittest.TestCase):
    def refused(self, ask, *handed):
        with self.assertRaises(NoRow) as taken:
            ask(*handed)
        self.assertEqual(taken.exception.__class__, NoRow)

    def test_back_refuses_what_is_no_row(self):
        for thing in NO_ROWS:
            with self.subTest(thing):
                self.refused(back, thing)

    def test_need_row_refuses_what_is_no_row(self):
        for thing in NO_ROWS:
            with self.subTest(thing):
                self.refused(need_row, thing)

    def test_reads_alike_refuses_what_is_no_row_ahead_of_all_else(self):
        for thing in NO_ROWS:
            for other in ((0, 0), (0, 1), (1, 0), (False, True), None, [0, 1], "a", {}, ()):
                with self.subTest(thing=thing, other=other):
                    self.refused(reads_alike, thing, other)

    def test_what_is_refused_is_not_changed(self):
        for thing in NO_ROWS:
            ahead = repr(thing)
            with self.subTest(thing):
                self.refused(back, thing)
                self.refused(reads_alike, thing, (0, 1))
                self.assertEqual(repr(thing), ahead)


class Back(unittest.TestCase):
    def test_few_signs(self):
        for row, wanted in (("", ""), ("a", "a"), ("ab", "ba"), ("abc", "cba"), ("aab", "baa"), ("aba", "aba")):
            with self.subTest(row):
                self.assertEqual(back(row), wanted)

    def test_many_signs(self):
        self.assertEqual(back(ALPHABET), "zyxwvutsrqponmlkjihgfedcba")
        self.assertEqual(back("a" * 199 + "b"), "b" + "a" * 199)
        self.assertEqual(back("a" * 200), "a" * 200)

    def test_small_rows_sign_by_sign(self):
        for row in small_rows():
            with self.subTest(row):
                turned = back(row)
                self.assertIs(is_row(turned), True)
                self.assertEqual(len(turned), len(row))
                self.assertTrue(all(turned[len(row) - 1 - place] == row[place] for place in range(len(row))))

    def test_the_answer_stays(self):
        for row in ("", "a", "abc"):
            with self.subTest(row):
                self.assertTrue(stays(back, row))


class ReadsAlike(unittest.TestCase):
    def test_all_pairs_of_small_rows_against_the_words(self):
        for row in small_rows():
            length = len(row)
            for first in range(-length - 2, length + 3):
                for behind in range(-length - 2, length + 3):
                    stretch = 0 <= first and first <= behind and behind <= length
                    wanted = stretch and same_from_both_ends([row[place] for place in range(first, behind)])
                    if reads_alike(row, (first, behind)) is not wanted:
                        self.fail((row, first, behind, wanted))

    def test_stretches_without_signs_at_each_place(self):
        for row in ("", "a", "ab", "abc", ALPHABET, "ab" * 100):
            for place in range(len(row) + 1):
                with self.subTest(row=row, place=place):
                    self.assertIs(reads_alike(row, (place, place)), True)
            self.assertIs(reads_alike(row, (len(row) + 1, len(row) + 1)), False)

    def test_a_long_row(self):
        row = "a" * 199 + "b"
        self.assertIs(reads_alike(row, (0, 199)), True)
        self.assertIs(reads_alike(row, (199, 200)), True)
        self.assertIs(reads_alike(row, (200, 200)), True)
        self.assertIs(reads_alike(row, (0, 200)), False)
        self.assertIs(reads_alike(row, (198, 200)), False)
        self.assertIs(reads_alike(row, (0, 201)), False)

    def test_what_is_no_stretch(self):
        for thing in NO_STRETCHES:
            with self.subTest(thing):
                self.assertIs(reads_alike("aaa", thing), False)

    def test_what_is_no_stretch_of_the_row_without_signs(self):
        for thing in NO_STRETCHES + [(0, 1), (1, 1), (-1, 0)]:
            with self.subTest(thing):
                self.assertIs(reads_alike("", thing), False)

    def test_nothing_is_changed_and_the_answer_stays(self):
        for thing in NO_STRETCHES + [(0, 0), (0, 2), (0, 3), (3, 3)]:
            with self.subTest(thing):
                self.assertTrue(stays(reads_alike, "aab", thing))


if __name__ == "__main__":
    unittest.main()
