import unittest

from mirrorruns.errors import NoCount, NoRow, TooMany
from mirrorruns.fews import full_row, is_full, kinds_many, poorest, spread
from mirrorruns.rows import back, is_row
from mirrorruns.trees import tree
from things import (
    ALPHABET, GREAT, NO_NUMBERS, NO_ROWS, all_rows, is_own, long_rows, middling_rows, mirror_stretches, refused_by,
    stays, told,
)

FEW_SIGNS = all_rows("ab", 8) + all_rows("abc", 5)[1:]
MANY_SIGNS = (0, 1, 2, 3, 4, 5, 6, 7, 8, 9, 10, 11, 12, 13, 25, 26, 27, 60, 199, 200)


def kinds_by_stretches(row):
    return len({row[first:behind] for first, behind in mirror_stretches(row)})


def rows_with(signs, letters):
    return [row for row in all_rows(ALPHABET[:letters], signs) if len(row) == signs]


def fewest_by_words(signs, letters):
    if letters == 1:
        return signs
    if letters == 2:
        return signs if signs <= 7 else min(signs - 1, 8)
    return min(signs, 3)


class KindsManyAndIsFull(unittest.TestCase):
    def test_told_by_hand(self):
        for row, many, full in (
            ("", 0, True), ("a", 1, True), ("aa", 2, True), ("ab", 2, True), ("abca", 3, False), ("abcabc", 3, False),
            ("aababbaa", 7, False), ("banana", 6, True), ("a" * 200, 200, True), ("ab" * 100, 200, True),
        ):
            with self.subTest(row):
                self.assertEqual(told(kinds_many, row), repr(many))
                self.assertIs(is_full(row), full)

    def test_against_all_stretches(self):
        full = 0
        for row in FEW_SIGNS + middling_rows() + long_rows():
            many = kinds_by_stretches(row)
            self.assertEqual(told(kinds_many, row), repr(many), row)
            self.assertIs(is_full(row), many == len(row), row)
            self.assertEqual(many, len(tree(row)), row)
            self.assertLessEqual(many, len(row))
            full += many == len(row)
        self.assertGreater(full, 100)

    def test_the_answer_stays(self):
        for ask in (kinds_many, is_full):
            for row in ("", "abca", "abba"):
                self.assertTrue(stays(ask, row))

    def test_no_row(self):
        for ask in (kinds_many, is_full):
            for thing in NO_ROWS:
                with self.subTest(ask=ask, thing=thing):
                    self.assertIs(refused_by(ask, thing), NoRow)


class Spread(unittest.TestCase):
    def test_told_by_hand(self):
        for signs, letters, wanted in (
            (0, 1, [1]), (0, 2, [1]), (0, 3, [1]), (1, 1, [0, 1]), (1, 2, [0, 2]), (1, 3, [0, 3]), (2, 2, [0, 0, 4]),
            (9, 1, [0] * 9 + [1]), (4, 3, [0, 0, 0, 6, 75]),
        ):
            with self.subTest(signs=signs, letters=letters):
                self.assertEqual(told(spread, signs, letters), repr(wanted))

    def test_all_numbers_against_all_rows(self):
        for signs in range(10):
            for letters in (1, 2, 3):
                if letters ** signs > 700:
                    self.assertIs(refused_by(spread, signs, letters), TooMany)
                    continue
                wanted = [0] * (signs + 1)
                for row in rows_with(signs, letters):
                    wanted[kinds_by_stretches(row)] += 1
                self.assertEqual(told(spread, signs, letters), repr(wanted), (signs, letters))
                self.assertEqual(sum(wanted), letters ** signs)

    def test_more_rows_than_700(self):
        for signs in (6, 7, 8, 9):
            self.assertIs(refused_by(spread, signs, 3), TooMany)
        self.assertIs(refused_by(spread, 9, 2), None)
        self.assertIs(refused_by(spread, 5, 3), None)

    def test_no_such_number_of_signs(self):
        for signs in NO_NUMBERS + [-1, 10, 11, 200, GREAT, -GREAT, True, False, "1", None]:
            for letters in (1, 2, 3, 0, 4, -1, True, None, "a", [], signs):
                with self.subTest(signs=signs, letters=letters):
                    self.assertIs(refused_by(spread, signs, letters), NoCount)

    def test_no_such_number_of_letters(self):
        for letters in NO_NUMBERS + [0, -1, 4, 5, 26, 27, GREAT, -GREAT, True, False, "1", None]:
            for signs in (0, 1, 5, 6, 9):
                with self.subTest(signs=signs, letters=letters):
                    self.assertIs(refused_by(spread, signs, letters), NoCount)

    def test_the_list_is_the_askers_own(self):
        for signs, letters in ((0, 1), (3, 2), (4, 3)):
            self.assertTrue(is_own(spread, signs, letters))
            self.assertTrue(stays(spread, signs, letters))


class Poorest(unittest.TestCase):
    def test_all_small_ones_against_all_rows(self):
        for letters, most in ((1, 9), (2, 11), (3, 7), (4, 5), (5, 4)):
            for signs in range(most + 1):
                least = min(kinds_many(row) for row in rows_with(signs, letters))
                self.assertEqual(kinds_by_stretches(poorest(signs, letters)), least, (signs, letters))
                self.assertEqual(least, fewest_by_words(signs, letters), (signs, letters))

    def test_as_many_as_the_words_tell(self):
        for letters in range(1, 27):
            for signs in MANY_SIGNS if letters < 5 or letters == 26 else (0, 1, 2, 3, 4, 30):
                row = poorest(signs, letters)
                self.assertIs(is_row(row), True)
                self.assertEqual(len(row), signs)
                self.assertLessEqual(set(row), set(ALPHABET[:letters]), (signs, letters))
                self.assertEqual(kinds_by_stretches(row), fewest_by_words(signs, letters), (signs, letters))

    def test_every_number_of_signs(self):
        for letters in (1, 2, 3, 26):
            for signs in range(201):
                row = poorest(signs, letters)
                self.assertEqual(len(row), signs)
                self.assertEqual(kinds_many(row), fewest_by_words(signs, letters), (signs, letters))


class FullRow(unittest.TestCase):
    def held(self, signs, letters):
        row = full_row(signs, letters)
        self.assertIs(is_row(row), True)
        self.assertEqual(len(row), signs)
        self.assertLessEqual(set(row), set(ALPHABET[:letters]), (signs, letters))
        self.assertEqual(len(set(row)), min(signs, letters), (signs, letters))
        return row

    def test_all_small_ones(self):
        for letters in range(1, 9):
            for signs in range(20):
                row = self.held(signs, letters)
                self.assertEqual(kinds_by_stretches(row), signs, (signs, letters))

    def test_many(self):
        for letters in range(1, 27):
            for signs in MANY_SIGNS + (14, 100, 150):
                row = self.held(signs, letters)
                self.assertIs(is_full(row), True, (signs, letters))
        for signs, letters in ((200, 1), (200, 2), (200, 26), (26, 26), (25, 26), (27, 26)):
            self.assertEqual(kinds_by_stretches(full_row(signs, letters)), signs)


class Refused(unittest.TestCase):
    def test_no_such_number_of_signs(self):
        for ask in (poorest, full_row):
            for signs in NO_NUMBERS + [-1, -200, 201, 202, GREAT, -GREAT, True, False, "1", None]:
                for letters in (1, 2, 26, 0, 27, None, True, "a", signs):
                    with self.subTest(ask=ask, signs=signs, letters=letters):
                        self.assertIs(refused_by(ask, signs, letters), NoCount)

    def test_no_such_number_of_letters(self):
        for ask in (poorest, full_row):
            for letters in NO_NUMBERS + [0, -1, -26, 27, 28, 200, GREAT, -GREAT, True, False, "1", None]:
                for signs in (0, 1, 2, 200):
                    with self.subTest(ask=ask, signs=signs, letters=letters):
                        self.assertIs(refused_by(ask, signs, letters), NoCount)

    def test_the_bounds_themselves_are_taken(self):
        for ask in (poorest, full_row):
            for signs in (0, 200):
                for letters in (1, 26):
                    self.assertIs(refused_by(ask, signs, letters), None)
                    self.assertTrue(stays(ask, signs, letters))


# [84]
class WhatFollows(unittest.TestCase):
    def test_turned_about(self):
        for row in FEW_SIGNS + middling_rows() + long_rows():
            self.assertEqual(kinds_many(back(row)), kinds_many(row), row)

    def test_beginnings_and_ends_of_full_rows(self):
        for row in FEW_SIGNS + middling_rows() + [full_row(30, 5), full_row(12, 20)]:
            if is_full(row):
                for place in range(len(row) + 1):
                    self.assertIs(is_full(row[:place]), True, row)
                    self.assertIs(is_full(row[place:]), True, row)

    def test_each_row_of_at_most_seven_signs_of_two_letters(self):
        for row in all_rows("ab", 7):
            self.assertIs(is_full(row), True, row)


if __name__ == "__main__":
    unittest.main()
