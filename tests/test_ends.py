import unittest

from mirrorruns.ends import begins, borders, ends, groups
from mirrorruns.errors import NoLengths, NoRow
from mirrorruns.rows import back, is_mirror
from things import (
    GREAT, NO_ROWS, all_rows, is_own, long_rows, middling_rows, refused_by, same_from_both_ends, stays, told,
)

ROWS = all_rows("ab", 8) + all_rows("abc", 5) + middling_rows() + long_rows()
NO_LENGTHS = [
    [1, 2], [1, 2, 3], [3, 1, 2], [3, 2, 4, 1], [5, 4, 1, 2], [GREAT - 1, GREAT],
    [1, 1], [3, 3], [3, 2, 2, 1], [3, 3, 2], [3, 2, 1, 1], [GREAT, GREAT],
    [0], [1, 0], [3, 2, 0], [0, 0], [0, -1],
    [-1], [1, -1], [3, 2, 1, -1], [-1, -2], [-GREAT], [GREAT, -GREAT],
    [True], [False], [True, False], [2, True], [3, 2, True], [True, 0], [1, False], [5, True, 1],
    ["a"], ["1"], [""], [2, "1"], ["2", 1], ["2", "1"], ["b", "a"], [3, "a", 1],
    [None], [2, None], [None, 1], [3, None, 1],
    [[]], [[1]], [[2], [1]], [3, [2], 1], [(1,)], [(2, 1)], [{}], [{1: 1}], [3, {}, 1], [2, 1, []],
    (3, 2, 1), (1,), {3: 3, 2: 2, 1: 1}, {1: True}, "3 2 1", "321", "a", "", "cba", [["a" * 5000]], [2, "a" * 5000],
] + [thing for thing in NO_ROWS if thing != []]


def lengths_falling(row):
    return range(len(row), 0, -1)


def tail(row, length):
    return "".join(row[place] for place in range(len(row) - length, len(row)))


def head(row, length):
    return "".join(row[place] for place in range(length))


def steps_by_hand(lengths):
    return [lengths[place] - (lengths + [0])[place + 1] for place in range(len(lengths))]


class EndsBeginsBorders(unittest.TestCase):
    def test_told_by_hand(self):
        for row, last, first, both in (
            ("", [], [], []), ("a", [1], [1], []), ("ab", [1], [1], []), ("aa", [2, 1], [2, 1], [1]),
            ("aab", [1], [2, 1], []), ("abb", [2, 1], [1], []), ("aba", [3, 1], [3, 1], [1]),
            ("abab", [3, 1], [3, 1], [2]), ("abcabc", [1], [1], [3]), ("abcab", [1], [1], [2]),
            ("aaabaaa", [7, 3, 2, 1], [7, 3, 2, 1], [3, 2, 1]), ("ababa", [5, 3, 1], [5, 3, 1], [3, 1]),
            ("xabba", [4, 1], [1], []), ("abbax", [1], [4, 1], []),
        ):
            with self.subTest(row):
                self.assertEqual(told(ends, row), repr(last))
                self.assertEqual(told(begins, row), repr(first))
                self.assertEqual(told(borders, row), repr(both))

    def test_ends_against_all_last_signs(self):
        for row in ROWS:
            wanted = [length for length in lengths_falling(row) if same_from_both_ends(tail(row, length))]
            self.assertEqual(told(ends, row), repr(wanted), row)

    def test_begins_against_all_first_signs(self):
        for row in ROWS:
            wanted = [length for length in lengths_falling(row) if same_from_both_ends(head(row, length))]
            self.assertEqual(told(begins, row), repr(wanted), row)

    def test_borders_against_both(self):
        for row in ROWS:
            wanted = [length for length in lengths_falling(row)[1:] if head(row, length) == tail(row, length)]
            self.assertEqual(told(borders, row), repr(wanted), row)

    def test_the_row_itself_where_it_is_a_mirror(self):
        for row in ROWS:
            self.assertIs(len(row) in ends(row), is_mirror(row), row)
            self.assertIs(len(row) in begins(row), is_mirror(row), row)
            self.assertNotIn(len(row), borders(row), row)

    def test_turned_about(self):
        for row in ROWS:
            self.assertEqual(begins(back(row)), ends(row), row)
            self.assertEqual(borders(back(row)), borders(row), row)

    def test_the_lists_are_the_askers_own(self):
        for ask in (ends, begins, borders):
            for row in ("", "a", "aabaa", "abab"):
                with self.subTest(ask=ask, row=row):
                    self.assertTrue(is_own(ask, row))
                    self.assertTrue(stays(ask, row))

    def test_no_row(self):
        for ask in (ends, begins, borders):
            for thing in NO_ROWS:
                with self.subTest(ask=ask, thing=thing):
                    self.assertIs(refused_by(ask, thing), NoRow)


class Groups(unittest.TestCase):
    def test_told_by_hand(self):
        for lengths, wanted in (
            ([7, 3, 2, 1], [(7, 4, 1), (3, 1, 3)]),
            ([], []),
            ([1], [(1, 1, 1)]), ([5], [(5, 5, 1)]),
            ([2, 1], [(2, 1, 2)]), ([6, 4, 2], [(6, 2, 3)]), ([4, 3, 2, 1], [(4, 1, 4)]),
            ([3, 1], [(3, 2, 1), (1, 1, 1)]), ([5, 3, 1], [(5, 2, 2), (1, 1, 1)]), ([3, 2], [(3, 1, 1), (2, 2, 1)]),
            ([9, 8, 6, 3], [(9, 1, 1), (8, 2, 1), (6, 3, 2)]),
            ([10, 9, 5, 4], [(10, 1, 1), (9, 4, 1), (5, 1, 1), (4, 4, 1)]),
            ([6, 5, 3, 2], [(6, 1, 1), (5, 2, 1), (3, 1, 1), (2, 2, 1)]),
            ([GREAT], [(GREAT, GREAT, 1)]),
            ([GREAT, GREAT - 1, GREAT - 2], [(GREAT, 1, 2), (GREAT - 2, GREAT - 2, 1)]),
            ([3 * 10 ** 39, 2 * 10 ** 39, 10 ** 39], [(3 * 10 ** 39, 10 ** 39, 3)]),
            ([3 * 10 ** 39, 2 * 10 ** 39, 10 ** 39 + 1], [
                (3 * 10 ** 39, 10 ** 39, 1), (2 * 10 ** 39, 10 ** 39 - 1, 1), (10 ** 39 + 1, 10 ** 39 + 1, 1),
            ]),
            (list(range(200, 0, -1)), [(200, 1, 200)]),
        ):
            with self.subTest(lengths):
                self.assertEqual(told(groups, lengths), repr(wanted))

    def test_the_groups_hold_the_lengths_and_none_could_hold_more(self):
        for bits in range(1024):
            lengths = [length for length in range(10, 0, -1) if bits >> length - 1 & 1]
            answer = groups(lengths)
            again = [greatest - step * number for greatest, step, many in answer for number in range(many)]
            steps = [step for greatest, step, many in answer for number in range(many)]
            self.assertEqual(again, lengths)
            self.assertEqual(steps, steps_by_hand(lengths))
            for one, other in zip(answer, answer[1:]):
                self.assertNotEqual(one[1], other[1], lengths)

    def test_no_lengths(self):
        for thing in NO_LENGTHS:
            with self.subTest(thing):
                self.assertIs(refused_by(groups, thing), NoLengths)

    def test_nothing_is_changed_and_the_list_is_the_askers_own(self):
        for lengths in ([], [1], [7, 3, 2, 1], [GREAT, 1]):
            with self.subTest(lengths):
                self.assertTrue(stays(groups, lengths))
                self.assertTrue(is_own(groups, lengths))

    def test_what_is_later_done_to_the_lengths_changes_nothing(self):
        lengths = [7, 3, 2, 1]
        answer = groups(lengths)
        lengths.clear()
        self.assertEqual(answer, [(7, 4, 1), (3, 1, 3)])


class WhatFollows(unittest.TestCase):
    def test_of_a_mirror_the_ends_are_its_length_and_its_borders(self):
        found = 0
        for row in ROWS:
            if is_mirror(row):
                found += 1
                self.assertEqual(ends(row), [len(row)] + borders(row), row)
                self.assertEqual(begins(row), ends(row), row)
        self.assertGreater(found, 100)

    def test_of_each_end_the_lesser_ends_are_ends(self):
        for row in ROWS:
            lengths = ends(row)
            for number, length in enumerate(lengths):
                text = tail(row, length)
                self.assertIs(is_mirror(text), True, row)
                self.assertEqual(ends(text), lengths[number:], row)

    def test_steps_never_grow_and_where_one_is_less_the_length_is_great(self):
        less = 0
        for row in ROWS:
            for lengths in (ends(row), begins(row)):
                steps = steps_by_hand(lengths)
                beyond = lengths + [0, 0]
                for number in range(len(steps) - 1):
                    self.assertLessEqual(steps[number + 1], steps[number], row)
                    if steps[number + 1] < steps[number]:
                        less += 1
                        self.assertGreater(beyond[number], beyond[number + 1] + beyond[number + 2], row)
        self.assertGreater(less, 100)

    def test_a_row_has_few_groups(self):
        least = [1, 3]
        while len(least) < 12:
            least.append(least[-2] + least[-1] + 1)
        self.assertEqual(least[:5], [1, 3, 5, 9, 15])
        most = 0
        for row in ROWS:
            for lengths in (ends(row), begins(row)):
                many = len(groups(lengths))
                most = max(most, many)
                if many > 0:
                    self.assertGreaterEqual(lengths[0], least[many - 1], row)
        self.assertGreater(most, 3)

    def test_the_groups_have_the_steps_of_the_ends(self):
        for row in ROWS:
            for lengths in (ends(row), begins(row)):
                steps = [step for greatest, step, many in groups(lengths) for number in range(many)]
                self.assertEqual(steps, steps_by_hand(lengths), row)


if __name__ == "__main__":
    unittest.main()
