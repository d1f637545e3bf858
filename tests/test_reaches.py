import unittest

from mirrorruns.errors import NoMiddle, NoRow
from mirrorruns.reaches import are_reaches, longest, mirrors_many, reach, reaches
from mirrorruns.rows import back, is_mirror
from things import (
    ALPHABET, GREAT, NO_NUMBERS, NO_ROWS, all_rows, is_own, long_rows, middling_rows, mirror_stretches, refused_by,
    small_rows, stays, told,
)

ROWS = all_rows("ab", 8) + all_rows("abc", 5) + middling_rows()


# All stretches around each middle, one by one.
def reaches_by_stretches(row):
    lengths = [0] * (2 * len(row) - 1)
    for first, behind in mirror_stretches(row):
        lengths[first + behind - 1] = max(lengths[first + behind - 1], behind - first)
    return lengths


class Reaches(unittest.TestCase):
    def test_told_by_hand(self):
        for row, wanted in (
            ("", []), ("a", [1]), ("aa", [1, 2, 1]), ("ab", [1, 0, 1]), ("aba", [1, 0, 3, 0, 1]),
            ("aaa", [1, 2, 3, 2, 1]), ("abba", [1, 0, 1, 4, 1, 0, 1]), ("aab", [1, 2, 1, 0, 1]),
            ("abc", [1, 0, 1, 0, 1]), ("xabba", [1, 0, 1, 0, 1, 4, 1, 0, 1]),
        ):
            with self.subTest(row):
                self.assertEqual(told(reaches, row), repr(wanted))

    def test_against_all_stretches(self):
        for row in ROWS:
            self.assertEqual(told(reaches, row), repr(reaches_by_stretches(row)), row)

    def test_rows_of_about_200_signs(self):
        for row in long_rows():
            with self.subTest(row):
                self.assertIn(len(row), (199, 200))
                self.assertEqual(told(reaches, row), repr(reaches_by_stretches(row)))

    def test_odd_at_a_sign_and_even_between_two(self):
        for row in ROWS + long_rows():
            for middle, length in enumerate(reaches(row)):
                self.assertEqual(length % 2, 1 - middle % 2, (row, middle))

    def test_the_list_is_the_askers_own(self):
        for row in ("", "a", "aab", "abacaba"):
            with self.subTest(row):
                self.assertTrue(is_own(reaches, row))
                self.assertTrue(stays(reaches, row))


class Reach(unittest.TestCase):
    def test_each_middle(self):
        for row in small_rows() + middling_rows() + long_rows()[:4]:
            for middle, wanted in enumerate(reaches_by_stretches(row)):
                self.assertEqual(told(reach, row, middle), repr(wanted), (row, middle))

    def test_numbers_beyond(self):
        for row in ("a", "ab", "aba", "abba", ALPHABET, "a" * 200):
            for middle in (-1, -2, 1 - 2 * len(row), 2 * len(row) - 1, 2 * len(row), 2 * len(row) + 1, GREAT, -GREAT):
                with self.subTest(row=row, middle=middle):
                    self.assertIs(refused_by(reach, row, middle), NoMiddle)

    def test_things_of_other_kinds(self):
        for row in ("a", "aba", "a" * 200):
            for thing in NO_NUMBERS:
                with self.subTest(row=row, thing=thing):
                    self.assertIs(refused_by(reach, row, thing), NoMiddle)

    def test_the_row_without_signs_has_none(self):
        for thing in NO_NUMBERS + [0, 1, -1, -2, 2, GREAT, -GREAT]:
            with self.subTest(thing):
                self.assertIs(refused_by(reach, "", thing), NoMiddle)

    def test_the_answer_stays(self):
        self.assertTrue(stays(reach, "aba", 2))


class AreReaches(unittest.TestCase):
    def test_the_very_list(self):
        for row in ROWS + long_rows():
            self.assertIs(are_reaches(reaches(row), row), True, row)
            self.assertIs(are_reaches(reaches_by_stretches(row), row), True, row)

    def test_one_number_changed(self):
        for row in ("a", "ab", "aa", "aba", "abba", "aabaa", "abcab"):
            right = reaches_by_stretches(row)
            for place in range(len(right)):
                number = right[place]
                for other in (
                    number + 1, number - 1, number + 2, number - 2, -number - 1, GREAT, None, str(number), "",
                    [number], (number,), {}, {number: number}, [], (), True, False,
                ):
                    with self.subTest(row=row, place=place, other=other):
                        self.assertIs(are_reaches(right[:place] + [other] + right[place + 1:], row), False)

    def test_one_fewer_and_one_more(self):
        for row in ("a", "ab", "aa", "aba", "aaaa"):
            right = reaches_by_stretches(row)
            for place in range(len(right)):
                with self.subTest(row=row, place=place):
                    self.assertIs(are_reaches(right[:place] + right[place + 1:], row), False)
            for place in range(len(right) + 1):
                for other in (0, 1, None, []):
                    with self.subTest(row=row, place=place, other=other):
                        self.assertIs(are_reaches(right[:place] + [other] + right[place:], row), False)

    def test_from_behind(self):
        for row in small_rows():
            right = reaches_by_stretches(row)
            self.assertIs(are_reaches(right[::-1], row), right[::-1] == right, row)

    def test_of_another_row(self):
        rows = all_rows("ab", 4) + all_rows("abc", 3)
        lists = [reaches_by_stretches(row) for row in rows]
        for row, right in zip(rows, lists):
            for other in lists:
                self.assertIs(are_reaches(other, row), other == right, (row, other))

    def test_things_of_other_kinds(self):
        for row in ("a", "aba", "abc" * 20):
            right = reaches_by_stretches(row)
            for thing in NO_ROWS + [row, tuple(right), [right], str(right), dict(enumerate(right)), (right,)]:
                with self.subTest(row=row, thing=thing):
                    self.assertIs(are_reaches(thing, row), False)

    def test_the_row_without_signs(self):
        self.assertIs(are_reaches([], ""), True)
        for thing in NO_ROWS + ["", "a", [[]], [()], [""]]:
            if thing != []:
                with self.subTest(thing):
                    self.assertIs(are_reaches(thing, ""), False)

    def test_nothing_is_changed_and_the_answer_stays(self):
        for thing in NO_ROWS + [[1, 0, 3, 0, 1], [1, False, 3, 0, True], [1, 0, [3], 0, 1]]:
            with self.subTest(thing):
                self.assertTrue(stays(are_reaches, thing, "aba"))


class MirrorsMany(unittest.TestCase):
    def test_told_by_hand(self):
        for row, wanted in (("", 0), ("a", 1), ("ab", 2), ("aa", 3), ("aaa", 6), ("aba", 4), ("a" * 200, 20100)):
            with self.subTest(row):
                self.assertEqual(told(mirrors_many, row), repr(wanted))

    def test_against_all_stretches(self):
        for row in ROWS + long_rows():
            self.assertEqual(told(mirrors_many, row), repr(len(mirror_stretches(row))), row)


class Longest(unittest.TestCase):
    def test_told_by_hand(self):
        for row, wanted in (
            ("", None), ("a", (0, 1)), ("ab", (0, 1)), ("aba", (0, 3)), ("abab", (0, 3)), ("baab", (0, 4)),
            ("abba", (0, 4)), ("abcdd", (3, 5)), ("aabb", (0, 2)), ("abacc", (0, 3)), ("ccaba", (2, 5)),
        ):
            with self.subTest(row):
                self.assertEqual(told(longest, row), repr(wanted))

    def test_the_first_one_of_all_stretches(self):
        for row in ROWS + long_rows():
            wanted = None
            for first, behind in sorted(mirror_stretches(row)):
                if wanted is None or behind - first > wanted[1] - wanted[0]:
                    wanted = (first, behind)
            self.assertEqual(told(longest, row), repr(wanted), row)


class WhatFollows(unittest.TestCase):
    def test_the_lengths_around_one_middle(self):
        for row in ROWS:
            found = [[] for _ in range(2 * len(row) - 1)]
            for first, behind in mirror_stretches(row):
                found[first + behind - 1].append(behind - first)
            for middle, length in enumerate(reaches(row)):
                wanted = [one for one in range(1, length + 1) if one % 2 == length % 2]
                self.assertEqual(sorted(found[middle]), wanted, (row, middle))

    def test_a_mirror_by_the_middle_in_the_middle(self):
        for row in ROWS + long_rows():
            if row != "":
                self.assertIs(reach(row, len(row) - 1) == len(row), is_mirror(row), row)

    def test_turned_about_they_are_from_behind(self):
        for row in ROWS + long_rows():
            self.assertEqual(reaches(back(row)), reaches(row)[::-1], row)

    def test_the_left_half_of_each_mirror_stretch(self):
        for row in ROWS:
            lengths = reaches(row)
            for first, behind in mirror_stretches(row):
                for middle in range(2 * first, first + behind - 1):
                    if (middle + 1 - lengths[middle]) // 2 > first:
                        opposite = 2 * (first + behind - 1) - middle
                        self.assertEqual(lengths[opposite], lengths[middle], (row, first, behind, middle))


class NoRowAheadOfAllElse(unittest.TestCase):
    def test_of_one_thing(self):
        for ask in (reaches, mirrors_many, longest):
            for thing in NO_ROWS:
                with self.subTest(ask=ask, thing=thing):
                    self.assertIs(refused_by(ask, thing), NoRow)

    def test_of_two_things(self):
        for thing in NO_ROWS:
            for other in (0, 1, -1, GREAT, True, None, "a", "A", [], [0], [1], (), {}, thing):
                with self.subTest(thing=thing, other=other):
                    self.assertIs(refused_by(reach, thing, other), NoRow)
                    self.assertIs(refused_by(are_reaches, other, thing), NoRow)


if __name__ == "__main__":
    unittest.main()
