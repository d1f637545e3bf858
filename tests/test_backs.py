import unittest
from itertools import product

from mirrorruns.backs import alike_places, are_form, row_for, unlike_places
from mirrorruns.errors import NoReaches
from mirrorruns.reaches import reaches
from things import (
    ALPHABET, GREAT, NO_ROWS, all_rows, is_own, joined_row, middling_rows, mirror_stretches, mixed_row, refused_by,
    stays, told,
)

FEW_SIGNS = all_rows("ab", 7) + all_rows("abc", 5)[1:]
FEW_ROWS = ["a", "aa", "ab", "aba", "abba", "aabaa", "abcab", "banana", "aaabaaa"]
ROWS_OF_60 = [
    "a" * 60, "ab" * 30, "abc" * 20, (ALPHABET * 3)[:60], "a" * 59 + "b", "z" * 60, mixed_row(3, 60, "ab"),
    mixed_row(4, 60, "abc"), mixed_row(5, 60, ALPHABET), joined_row("a", "ab", 60), joined_row("b", "ba", 60),
    mixed_row(6, 30, "xyz") + mixed_row(6, 30, "xyz")[::-1],
]
MIDDLING = [row for row in middling_rows() if len(row) <= 60]
HELD_TO_THE_FORM = (alike_places, unlike_places, row_for)


def reaches_by_stretches(row):
    far = [0] * max(2 * len(row) - 1, 0)
    for first, behind in mirror_stretches(row):
        far[first + behind - 1] = max(far[first + behind - 1], behind - first)
    return far


# From the words: each length is held against the places that a stretch around the middle would have.
def has_form(thing):
    if thing.__class__ is not list or len(thing) not in [0] + [2 * signs - 1 for signs in range(1, 61)]:
        return False
    signs = (len(thing) + 1) // 2
    for middle, length in enumerate(thing):
        lengths = [behind - first for first in range(signs + 1) for behind in range(first, signs + 1)
                   if first + behind - 1 == middle]
        if length.__class__ is not int or length not in lengths:
            return False
    return True


def all_forms(signs):
    middles = range(max(2 * signs - 1, 0))
    choices = [range((middle + 1) % 2, min(middle + 1, 2 * signs - 1 - middle) + 1, 2) for middle in middles]
    return [list(lengths) for lengths in product(*choices)]


# Each two places are asked by themselves.
def alike_by_pairs(far):
    signs = (len(far) + 1) // 2
    pairs = [(place, later) for place in range(signs) for later in range(place + 1, signs)]
    return [(place, later) for place, later in pairs if later + 1 - place <= far[place + later]]


def unlike_by_pairs(far):
    signs = (len(far) + 1) // 2
    pairs = [(place, later) for place in range(signs) for later in range(place + 1, signs)]
    return [(place, later) for place, later in pairs if later + 1 - place == far[place + later] + 2]


def first_rows(letters, signs):
    first = {}
    for row in ["".join(row) for row in product(letters, repeat=signs)]:
        first.setdefault(tuple(reaches_by_stretches(row)), row)
    return first


def tampered(right):
    signs = (len(right) + 1) // 2
    for place, length in enumerate(right):
        for other in (
            length + 1, length - 1, length + 2, length - 2, length + 4, length - 4, 200, 201, -1, -2, GREAT, GREAT - 1,
            -GREAT, 2 * signs, 2 * signs + 1, 0, 1, True, False, bool(length), None, "", str(length), [length],
            (length,), {}, {length: length}, [], "a" * 5000,
        ):
            yield right[:place] + [other] + right[place + 1:]
        yield right[:place] + right[place + 1:]
        for other in (0, 1, length, None):
            yield right[:place] + [other] + right[place:]
        yield right[:place] + right[place + 2:]
    yield from (right + [1], right + [0], right + [0, 1], right + [1, 0], [1, 0] + right, [0] + right, right + [None])
    yield from (tuple(right), [right], (right,), str(right), dict(enumerate(right)))


class AreForm(unittest.TestCase):
    def test_reaches_of_rows(self):
        for row in FEW_SIGNS + MIDDLING + ROWS_OF_60:
            self.assertIs(are_form(reaches_by_stretches(row)), True, row)
            self.assertIs(are_form(reaches(row)), True, row)

    def test_lists_that_no_row_has(self):
        for signs in range(6):
            for far in all_forms(signs):
                self.assertIs(are_form(far), True, far)

    def test_all_lists_of_small_numbers(self):
        for length in range(6):
            for numbers in product(range(-1, 6), repeat=length):
                self.assertIs(are_form(list(numbers)), has_form(list(numbers)), numbers)

    def test_tampered(self):
        refused = 0
        for row in FEW_ROWS + [mixed_row(2, 9, "ab")]:
            for thing in tampered(reaches_by_stretches(row)):
                wanted = has_form(thing)
                refused += not wanted
                self.assertIs(are_form(thing), wanted, thing)
        self.assertGreater(refused, 1000)

    def test_a_truth_in_the_place_of_0_or_1(self):
        self.assertIs(are_form([1]), True)
        self.assertIs(are_form([True]), False)
        self.assertIs(are_form([1, 0, 1]), True)
        for thing in ([True, 0, 1], [1, False, 1], [1, 0, True]):
            self.assertIs(are_form(thing), False)

    def test_an_even_number_of_numbers(self):
        for many in range(2, 122, 2):
            for row in ("a" * 61, "ab" * 31):
                self.assertIs(are_form(reaches(row)[:many]), False)
            self.assertIs(are_form(([1, 0] * 60)[:many]), False)

    def test_60_and_61_signs(self):
        for part in ("a", "ab", "abc"):
            self.assertIs(are_form(reaches((part * 60)[:60])), True)
            for signs in (61, 62, 100, 200):
                self.assertIs(are_form(reaches((part * 200)[:signs])), False)
        self.assertIs(are_form(([1, 0] * 60)[:119]), True)
        self.assertIs(are_form(([1, 0] * 61)[:121]), False)

    def test_the_list_without_numbers(self):
        self.assertIs(are_form([]), True)

    def test_things_of_other_kinds(self):
        for thing in NO_ROWS + ["", "a", (1,), (), {}, {0: 1}, "1", [[1]], [(1,)], [None]]:
            self.assertIs(are_form(thing), has_form(thing), thing)
            self.assertTrue(stays(are_form, thing))


class Places(unittest.TestCase):
    def test_told_by_hand(self):
        for far, alike, unlike in (
            ([], [], []), ([1], [], []), ([1, 0, 1], [], [(0, 1)]), ([1, 2, 1], [(0, 1)], []),
            ([1, 0, 3, 0, 1], [(0, 2)], [(0, 1), (1, 2)]), ([1, 0, 1, 0, 1], [], [(0, 1), (0, 2), (1, 2)]),
            ([1, 2, 3, 2, 1], [(0, 1), (0, 2), (1, 2)], []), ([1, 2, 1, 2, 1], [(0, 1), (1, 2)], [(0, 2)]),
        ):
            with self.subTest(far):
                self.assertEqual(told(alike_places, far), repr(alike))
                self.assertEqual(told(unlike_places, far), repr(unlike))

    def test_reaches_of_rows_against_each_two_places(self):
        for row in FEW_SIGNS + MIDDLING + ROWS_OF_60:
            far = reaches(row)
            self.assertEqual(told(alike_places, far), repr(alike_by_pairs(far)), row)
            self.assertEqual(told(unlike_places, far), repr(unlike_by_pairs(far)), row)
            self.assertTrue(all(row[place] == row[later] for place, later in alike_places(far)), row)
            self.assertTrue(all(row[place] != row[later] for place, later in unlike_places(far)), row)

    def test_all_lists_of_the_form(self):
        for signs in range(6):
            for far in all_forms(signs):
                self.assertEqual(told(alike_places, far), repr(alike_by_pairs(far)), far)
                self.assertEqual(told(unlike_places, far), repr(unlike_by_pairs(far)), far)

    def test_rising_each_once_and_no_more_than_119_unlike(self):
        for row in ROWS_OF_60:
            for ask in (alike_places, unlike_places):
                pairs = ask(reaches(row))
                self.assertEqual(pairs, sorted(set(pairs)), row)
            self.assertLessEqual(len(unlike_places(reaches(row))), 119)

    # A row has the reaches just where its signs are alike and unlike as is asked.
    def test_what_is_asked_tells_the_reaches(self):
        rows = all_rows("abc", 4)
        for far in [form for signs in range(5) for form in all_forms(signs)]:
            alike = alike_places(far)
            unlike = unlike_places(far)
            for row in rows:
                if 2 * len(row) - 1 == len(far):
                    asked = all(row[place] == row[later] for place, later in alike) and (
                        all(row[place] != row[later] for place, later in unlike)
                    )
                    self.assertIs(asked, reaches_by_stretches(row) == far, (row, far))


class RowFor(unittest.TestCase):
    def test_told_by_hand(self):
        for far, wanted in (
            ([], ""), ([1], "a"), ([1, 0, 1], "ab"), ([1, 2, 1], "aa"), ([1, 0, 3, 0, 1], "aba"),
            ([1, 0, 1, 0, 1], "abc"), ([1, 2, 1, 2, 1], None), ([1, 2, 3, 0, 1], None), ([1, 2, 1, 0, 1], "aab"),
        ):
            with self.subTest(far):
                self.assertEqual(told(row_for, far), repr(wanted))

    def test_all_lists_of_the_form_against_all_rows(self):
        none = 0
        for signs in range(6):
            first = first_rows(ALPHABET[:max(signs, 1)], signs)
            for far in all_forms(signs):
                wanted = first.get(tuple(far))
                none += wanted is None
                self.assertEqual(told(row_for, far), repr(wanted), far)
        self.assertGreater(none, 100)

    def test_reaches_of_rows_of_few_signs_against_all_rows(self):
        first = first_rows("abcd", 6)
        self.assertGreater(len(first), 30)
        for far, row in first.items():
            self.assertEqual(told(row_for, list(far)), repr(row))

    def test_longer_lists_that_no_row_has(self):
        for row in ROWS_OF_60[:5] + [mixed_row(9, 20, "ab")]:
            right = reaches(row)
            for middle in range(3, len(right) - 3, 5):
                for length in (right[middle] + 2, right[middle] - 2):
                    far = right[:middle] + [length] + right[middle + 1:]
                    if are_form(far):
                        answer = row_for(far)
                        self.assertTrue(answer is None or reaches_by_stretches(answer) == far, far)
        self.assertIs(row_for([1, 2] * 59 + [1]), None)

    # Place by place, the first letter that can stand is found by trying whether the rest can be told at all.
    def test_no_earlier_row_by_one_letter(self):
        for row in ROWS_OF_60 + MIDDLING:
            far = reaches(row)
            answer = row_for(far)
            alike = alike_by_pairs(far)
            unlike = unlike_by_pairs(far)
            for place, sign in enumerate(answer):
                if not any(later == place for ahead, later in alike):
                    for letter in ALPHABET[:ALPHABET.index(sign)]:
                        self.assertTrue(self.is_barred(answer, place, letter, alike, unlike), (row, place, letter))

    def is_barred(self, answer, place, letter, alike, unlike):
        same = {place}
        for _ in answer:
            same |= {other for pair in alike for other in pair if same & set(pair)}
        return any(
            answer[ahead] == letter and ahead < place and later in same or
            answer[later] == letter and later < place and ahead in same for ahead, later in unlike
        )


# [94]
class WhatFollows(unittest.TestCase):
    def test_the_told_row_has_the_reaches_and_is_no_later(self):
        for row in FEW_SIGNS + MIDDLING + ROWS_OF_60:
            answer = row_for(reaches(row))
            self.assertEqual(reaches_by_stretches(answer), reaches(row), row)
            self.assertLessEqual(answer, row)
            self.assertEqual(row_for(reaches(answer)), answer, row)

    def test_never_more_than_fifteen_letters(self):
        for row in ROWS_OF_60:
            self.assertLessEqual(len(set(row_for(reaches(row)))), 15)


class Refused(unittest.TestCase):
    def test_what_has_not_the_form(self):
        things = NO_ROWS + ["", "a", (1,), [2], [0], [1, 1, 1], [1, 0], [1, 0, 1, 0], [1, 4, 1], [3], [True], [-1]]
        for row in ("a", "ab", "aba"):
            things.extend(tampered(reaches(row)))
        for ask in HELD_TO_THE_FORM:
            for thing in things + [reaches("a" * 61), reaches("ab" * 100)]:
                wanted = None if has_form(thing) else NoReaches
                with self.subTest(ask=ask, thing=thing):
                    self.assertIs(refused_by(ask, thing), wanted)

    def test_nothing_is_changed_and_the_lists_are_the_askers_own(self):
        for row in ("", "a", "aba", "abcab", "a" * 60):
            for ask in HELD_TO_THE_FORM:
                self.assertTrue(stays(ask, reaches(row)))
            for ask in (alike_places, unlike_places):
                self.assertTrue(is_own(ask, reaches(row)))

    def test_what_is_later_done_to_the_reaches_changes_nothing(self):
        far = reaches("abcab")
        alike = alike_places(far)
        unlike = unlike_places(far)
        kept = repr((alike, unlike))
        far.clear()
        self.assertEqual(repr((alike, unlike)), kept)


if __name__ == "__main__":
    unittest.main()
