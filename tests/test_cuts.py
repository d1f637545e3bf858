import unittest

from mirrorruns.cuts import (
    are_bounds, bounds, cut, cuts_many, cuts_of, even_ends, fewest, fewest_even, is_cut,
)
from mirrorruns.errors import NoCount, NoRow
from things import (
    GREAT, NO_NUMBERS, NO_ROWS, all_rows, is_own, long_rows, middling_rows, mirror_stretches, mixed_row, refused_by,
    same_from_both_ends, stays, told,
)

FEW_SIGNS = all_rows("ab", 7) + all_rows("abc", 5)[1:]
FEW_ROWS = ["a", "aa", "ab", "aba", "abba", "aabaa", "abcab", "banana", "aaabaaa"]
ROWS_OF_200 = [row for row in long_rows() if len(row) == 200]


# One by one, each cut whole: another way than the program's.
def all_cuts(row, first=0):
    if first == len(row):
        return [[]]
    found = []
    for behind in range(first + 1, len(row) + 1):
        if same_from_both_ends(row[first:behind]):
            found.extend([(first, behind)] + others for others in all_cuts(row, behind))
    return found


def all_even_cuts(row):
    return [some for some in all_cuts(row) if all((behind - first) % 2 == 0 for first, behind in some)]


def is_cut_by_hand(some, row):
    signs = [row[first:behind] for first, behind in some]
    places = [first for first, behind in some] + [len(row)]
    return "".join(signs) == row and all(map(same_from_both_ends, signs)) and "" not in signs and (
        places == [0] + [behind for first, behind in some]
    )


# Wherever a mirror stretch ends, the number is at most one more than where it begins; worked from ahead to behind.
def greatest_bounds(row):
    numbers = [0] + [len(row)] * len(row)
    for first, behind in sorted(mirror_stretches(row), key=lambda stretch: stretch[1]):
        numbers[behind] = min(numbers[behind], numbers[first] + 1)
    return numbers


def keeps_to_the_words(numbers, row):
    return numbers[0] == 0 and all(
        numbers[behind] <= numbers[first] + 1 for first, behind in mirror_stretches(row)
    )


def one_changed(right, place, thing):
    return right[:place] + [thing] + right[place + 1:]


def tampered_cuts(right):
    for place, (first, behind) in enumerate(right):
        yield right[:place] + right[place + 1:]
        yield right[:place] + [right[place]] + right[place:]
        yield right[:place] + [(first, first)] + right[place:]
        yield right[:place + 1] + [(behind, behind)] + right[place + 1:]
        for stretch in (
            (first + 1, behind + 1), (first - 1, behind - 1), (first, behind + 1), (first - 1, behind),
            (first, behind - 1), (first + 1, behind), (behind, first), (first - 200, behind), (first, GREAT),
            (-GREAT, behind), (first,), (first, behind, behind), (), None, first, True, "a", "", {first: behind}, [],
            [first, behind], [(first, behind)], ((first, behind),), (str(first), behind), (first, str(behind)),
            (None, behind), (first, None), ([first], behind), (first, [behind]), (first, {}), "a" * 5000,
        ):
            if stretch != (first, behind):
                yield one_changed(right, place, stretch)
        if first in (0, 1):
            yield one_changed(right, place, (bool(first), behind))
        if behind in (0, 1):
            yield one_changed(right, place, (first, bool(behind)))
        for other in range(place):
            exchanged = list(right)
            exchanged[place], exchanged[other] = right[other], right[place]
            yield exchanged
    yield from (tuple(right), [right], (right,), str(right), dict(enumerate(right)), dict(right))
    yield from (right + [None], right + [[]], right + [()], [None] + right, right + right if right else [[]])


class IsCut(unittest.TestCase):
    def refused_as_cut(self, thing, row):
        self.assertIs(is_cut(thing, row), False, (thing, row))

    def test_all_cuts(self):
        for row in FEW_SIGNS:
            for some in all_cuts(row):
                self.assertIs(is_cut(some, row), True, (some, row))

    def test_cuts_of_long_rows(self):
        for row in middling_rows() + long_rows():
            self.assertIs(is_cut([(place, place + 1) for place in range(len(row))], row), True, row)
            if same_from_both_ends(row):
                self.assertIs(is_cut([(0, len(row))], row), True, row)

    def test_tampered(self):
        for row in FEW_ROWS:
            for right in all_cuts(row):
                for thing in tampered_cuts(right):
                    self.refused_as_cut(thing, row)

    def test_two_put_together(self):
        for row in FEW_ROWS + all_rows("abc", 4)[-81:]:
            for right in all_cuts(row):
                for place in range(len(right) - 1):
                    joined = (right[place][0], right[place + 1][1])
                    some = right[:place] + [joined] + right[place + 2:]
                    self.assertIs(is_cut(some, row), same_from_both_ends(row[joined[0]:joined[1]]), (some, row))

    def test_all_ways_to_cut_whether_into_mirrors_or_not(self):
        for row in all_rows("ab", 6)[-64:] + all_rows("abc", 4)[-81:]:
            for bits in range(2 ** (len(row) - 1)):
                places = [0] + [place for place in range(1, len(row)) if bits >> place - 1 & 1] + [len(row)]
                some = list(zip(places, places[1:]))
                self.assertIs(is_cut(some, row), is_cut_by_hand(some, row), (some, row))

    def test_cuts_of_other_rows(self):
        rows = all_rows("ab", 4)
        for one in rows:
            for some in all_cuts(one):
                for row in rows:
                    self.assertIs(is_cut(some, row), is_cut_by_hand(some, row), (some, row))

    def test_things_of_other_kinds(self):
        for row in FEW_ROWS:
            for thing in NO_ROWS + ["", "a", row, [row], list(row), (), ((0, len(row)),)]:
                self.refused_as_cut(thing, row)

    def test_the_row_without_signs(self):
        self.assertIs(is_cut([], ""), True)
        for thing in NO_ROWS + ["", "a", (), {}, [()], [(0, 0)], [(0, 1)], [(0, 0), (0, 0)], [[]], [None], [""]]:
            if thing != []:
                self.refused_as_cut(thing, "")

    def test_nothing_is_changed_and_the_answer_stays(self):
        for thing in NO_ROWS + [[(0, 1), (1, 2)], [(0, 2)], [[0, 1], [1, 2]], [(0, 1), [1, 2]]]:
            with self.subTest(thing):
                self.assertTrue(stays(is_cut, thing, "ab"))


class FewestAndCut(unittest.TestCase):
    def test_told_by_hand(self):
        for row, wanted in (
            ("", 0), ("a", 1), ("ab", 2), ("aba", 1), ("aab", 2), ("abc", 3), ("banana", 2), ("aabbaab", 2),
            ("abacdc", 2), ("abcbd", 3), ("a" * 200, 1), ("ab" * 100, 2), ("abc" * 66 + "ab", 200),
        ):
            with self.subTest(row):
                self.assertEqual(told(fewest, row), repr(wanted))
        for row, wanted in (("", []), ("a", [(0, 1)]), ("aba", [(0, 3)]), ("abc", [(0, 1), (1, 2), (2, 3)])):
            with self.subTest(row):
                self.assertEqual(told(cut, row), repr(wanted))

    def test_against_all_cuts(self):
        for row in FEW_SIGNS:
            cuts = all_cuts(row)
            least = min(map(len, cuts))
            self.assertEqual(told(fewest, row), repr(least), row)
            self.assertIn(cut(row), cuts, row)
            self.assertEqual(len(cut(row)), least, row)

    def test_the_told_cut_is_one_with_the_fewest(self):
        for row in middling_rows() + long_rows() + [mixed_row(seed, 200, "abc") for seed in range(5)]:
            some = cut(row)
            self.assertIs(some.__class__, list)
            self.assertIs(is_cut(some, row), True, row)
            self.assertTrue(is_cut_by_hand(some, row), row)
            self.assertEqual(len(some), fewest(row), row)
            self.assertEqual(fewest(row), greatest_bounds(row)[-1], row)

    def test_the_lists_are_the_askers_own(self):
        for ask in (cut, bounds, even_ends):
            for row in ("", "a", "aabaab", "abba"):
                with self.subTest(ask=ask, row=row):
                    self.assertTrue(is_own(ask, row))

    def test_told_again_the_same(self):
        for ask in (fewest, cut, bounds, cuts_many, even_ends, fewest_even):
            for row in ["", "a", "aabaab", "abba"] + ROWS_OF_200[:3]:
                with self.subTest(ask=ask, row=row):
                    self.assertTrue(stays(ask, row))


class Bounds(unittest.TestCase):
    def test_told_by_hand(self):
        for row, wanted in (
            ("", [0]), ("a", [0, 1]), ("ab", [0, 1, 2]), ("aab", [0, 1, 1, 2]), ("aba", [0, 1, 2, 1]),
            ("abab", [0, 1, 2, 1, 2]),
        ):
            with self.subTest(row):
                self.assertEqual(told(bounds, row), repr(wanted))

    def test_each_number_is_the_fewest_of_the_signs_ahead(self):
        for row in FEW_SIGNS:
            wanted = [min(map(len, all_cuts(row[:place]))) for place in range(len(row) + 1)]
            self.assertEqual(told(bounds, row), repr(wanted), row)

    def test_of_longer_rows(self):
        for row in middling_rows() + long_rows():
            self.assertEqual(told(bounds, row), repr(greatest_bounds(row)), row)
            for place in (0, 1, len(row) // 2, len(row)):
                self.assertEqual(bounds(row)[place], fewest(row[:place]), row)

    def test_told_bounds_are_bounds(self):
        for row in FEW_SIGNS + middling_rows() + long_rows():
            self.assertIs(are_bounds(bounds(row), row), True, row)
            self.assertIs(are_bounds(greatest_bounds(row), row), True, row)

    def test_lesser_ones_that_keep_to_the_words(self):
        for row in FEW_ROWS + middling_rows()[:20] + ROWS_OF_200[:2]:
            length = len(row)
            for numbers in (
                [0] * (length + 1), [0] + [-1] * length, list(range(0, -length - 1, -1)), [0] + [-GREAT] * length,
                [0] + [-GREAT] * (length - 1) + [1 - GREAT], [-place * 7 for place in range(length + 1)],
            ):
                self.assertTrue(keeps_to_the_words(numbers, row))
                self.assertIs(are_bounds(numbers, row), True, (numbers, row))

    def test_all_small_numbers_against_the_words(self):
        kept = 0
        for row in ("a", "aa", "ab", "aba", "aab", "abb", "abc"):
            lists = [[]]
            for _ in range(len(row) + 1):
                lists = [numbers + [number] for numbers in lists for number in range(-2, 4)]
            for numbers in lists:
                wanted = keeps_to_the_words(numbers, row)
                kept += wanted
                self.assertIs(are_bounds(numbers, row), wanted, (numbers, row))
        self.assertGreater(kept, 100)

    def test_one_number_more_or_less(self):
        for row in FEW_ROWS + middling_rows()[:20]:
            right = bounds(row)
            for place in range(len(right)):
                for number in (right[place] + 1, right[place] - 1, right[place] + 200, GREAT, -GREAT, -1):
                    changed = one_changed(right, place, number)
                    self.assertIs(are_bounds(changed, row), keeps_to_the_words(changed, row), (changed, row))
                self.assertIs(are_bounds(one_changed(right, place, right[place] + 1), row), False)

    def test_the_first_one_not_0(self):
        for row in FEW_ROWS + [""]:
            for first in (1, -1, 2, 200, GREAT, -GREAT, False, True, None, "0", [], [0], (0,)):
                self.assertIs(are_bounds([first] + bounds(row)[1:], row), False, (first, row))

    def test_other_things_within(self):
        for row in FEW_ROWS:
            for right in (bounds(row), [0] * (len(row) + 1)):
                for place, number in enumerate(right):
                    for thing in (
                        bool(number), True, False, None, "", str(number), [number], (number,), {}, {number: number},
                        [], (), "a" * 5000,
                    ):
                        self.assertIs(are_bounds(one_changed(right, place, thing), row), False, (thing, row))

    def test_one_left_out_or_put_in(self):
        for row in FEW_ROWS + [""]:
            for right in (bounds(row), [0] * (len(row) + 1), [0] + [-5] * len(row)):
                for place in range(len(right) + 1):
                    for number in (0, 1, -1, -GREAT):
                        self.assertIs(are_bounds(right[:place] + [number] + right[place:], row), False)
                    if place < len(right):
                        self.assertIs(are_bounds(right[:place] + right[place + 1:], row), False)

    def test_things_of_other_kinds(self):
        for row in FEW_ROWS:
            right = bounds(row)
            things = [tuple(right), [right], (right,), str(right), dict(enumerate(right)), row, list(row), len(row)]
            for thing in NO_ROWS + things:
                if not (thing.__class__ is list and thing in ([0, 0], [0, 1], [0]) and len(thing) == len(row) + 1):
                    self.assertIs(are_bounds(thing, row), False, (thing, row))

    def test_the_row_without_signs(self):
        self.assertIs(are_bounds([0], ""), True)
        for thing in NO_ROWS + ["", [False], [True], [1], [-1], [None], [[0]], (0,), {0: 0}, [0, 0]]:
            if repr(thing) != "[0]":
                self.assertIs(are_bounds(thing, ""), False, thing)

    def test_nothing_is_changed_and_the_answer_stays(self):
        for thing in NO_ROWS + [[0, 1, 2], [0, 2, 2], [0, 1, [2]], [0, True, 2]]:
            with self.subTest(thing):
                self.assertTrue(stays(are_bounds, thing, "ab"))

    # Whoever made them: no cut has fewer stretches than the last one.
    def test_they_bar_fewer(self):
        for row in all_rows("ab", 5)[-32:] + all_rows("abc", 3)[-27:]:
            least = min(map(len, all_cuts(row)))
            for seed in range(20):
                numbers = [0] + [ord(sign) - ord("c") for sign in mixed_row(seed, len(row), "abcdefg")]
                if are_bounds(numbers, row):
                    self.assertLessEqual(numbers[-1], least, (numbers, row))
            self.assertEqual(bounds(row)[-1], least, row)


class CutsMany(unittest.TestCase):
    def test_told_by_hand(self):
        for row, wanted in (("", 1), ("a", 1), ("aa", 2), ("ab", 1), ("aba", 2), ("aaa", 4), ("abba", 3)):
            with self.subTest(row):
                self.assertEqual(told(cuts_many, row), repr(wanted))

    def test_against_all_cuts(self):
        for row in FEW_SIGNS:
            lengths = [len(some) for some in all_cuts(row)]
            self.assertEqual(told(cuts_many, row), repr(len(lengths)), row)
            for count in range(len(row) + 3):
                self.assertEqual(told(cuts_of, row, count), repr(lengths.count(count)), (row, count))

    def test_the_row_without_signs(self):
        self.assertEqual(told(cuts_of, "", 0), "1")
        for count in (1, 2, 200, GREAT):
            self.assertEqual(told(cuts_of, "", count), "0")

    def test_rows_of_200_signs_of_one_letter(self):
        self.assertEqual(told(cuts_many, "a" * 200), repr(2 ** 199))
        ways = 1
        for count in range(1, 201):
            if count % 13 in (0, 1) or count > 196:
                self.assertEqual(told(cuts_of, "a" * 200, count), repr(ways), count)
            ways = ways * (200 - count) // count
        self.assertEqual(told(cuts_of, "a" * 200, 0), "0")
        self.assertEqual(told(cuts_of, "a" * 200, 201), "0")

    def test_together_they_are_all_cuts_and_none_has_fewer_than_the_fewest(self):
        for row in middling_rows()[:30]:
            counts = [cuts_of(row, count) for count in range(len(row) + 1)]
            self.assertEqual(sum(counts), cuts_many(row), row)
            self.assertEqual(counts[len(row)], 1, row)
            self.assertEqual(min(count for count, many in enumerate(counts) if many > 0), fewest(row), row)

    def test_great_counts(self):
        for row in ("a", "abba", "a" * 200):
            for count in (len(row) + 1, 201, 9999, GREAT):
                self.assertEqual(told(cuts_of, row, count), "0")

    def test_no_count(self):
        for row in ("", "a", "abba", "a" * 200):
            for thing in NO_NUMBERS + [-1, -2, -200, -GREAT, True, False, "1", "0", None, [1], (1,), {1: 1}]:
                with self.subTest(row=row, thing=thing):
                    self.assertIs(refused_by(cuts_of, row, thing), NoCount)

    def test_the_answer_stays(self):
        self.assertTrue(stays(cuts_of, "abba", 2))


class EvenCuts(unittest.TestCase):
    def test_told_by_hand(self):
        for row, places, least in (
            ("", [0], 0), ("a", [0], None), ("aa", [0, 2], 1), ("ab", [0], None), ("aba", [0], None),
            ("abba", [0, 4], 1), ("aabb", [0, 2, 4], 2), ("aaa", [0, 2], None), ("aaaa", [0, 2, 4], 1),
            ("abbaa", [0, 4], None), ("aabba", [0, 2, 4], None), ("abbaabba", [0, 4, 8], 1), ("baab", [0, 4], 1),
            ("aaaab", [0, 2, 4], None), ("a" * 200, list(range(0, 201, 2)), 1), ("aab", [0, 2], None),
        ):
            with self.subTest(row):
                self.assertEqual(told(even_ends, row), repr(places))
                self.assertEqual(told(fewest_even, row), repr(least))

    def test_against_all_even_cuts(self):
        found = 0
        for row in all_rows("a", 9) + all_rows("ab", 8):
            places = [place for place in range(len(row) + 1) if all_even_cuts(row[:place])]
            self.assertEqual(told(even_ends, row), repr(places), row)
            lengths = [len(some) for some in all_even_cuts(row)]
            found += len(lengths) > 0
            self.assertEqual(told(fewest_even, row), repr(min(lengths) if lengths else None), row)
        self.assertGreater(found, 50)

    def test_0_is_among_them_and_the_length_just_where_there_is_one(self):
        for row in all_rows("ab", 8) + middling_rows() + long_rows():
            places = even_ends(row)
            self.assertEqual(places[0], 0, row)
            self.assertEqual(places, sorted(set(places)), row)
            self.assertIs(len(row) in places, fewest_even(row) is not None, row)

    def test_rows_of_200_signs(self):
        half = mixed_row(5, 100, "ab")
        self.assertEqual(told(fewest_even, half + half[::-1]), "1")
        self.assertEqual(told(fewest_even, "aabb" * 50), "2")
        self.assertEqual(told(fewest_even, "aabbcc" * 33 + "aa"), "100")
        self.assertEqual(told(fewest_even, "ab" * 100), "None")
        self.assertEqual(told(even_ends, "ab" * 100), "[0]")


class NoRowAheadOfAllElse(unittest.TestCase):
    def test_of_one_thing(self):
        for ask in (fewest, cut, bounds, cuts_many, even_ends, fewest_even):
            for thing in NO_ROWS:
                with self.subTest(ask=ask, thing=thing):
                    self.assertIs(refused_by(ask, thing), NoRow)

    def test_of_two_things(self):
        for thing in NO_ROWS:
            for other in (0, 1, -1, GREAT, True, None, "a", "", [], [0], [(0, 1)], [(0, 0)], (), {}, thing):
                with self.subTest(thing=thing, other=other):
                    self.assertIs(refused_by(is_cut, other, thing), NoRow)
                    self.assertIs(refused_by(are_bounds, other, thing), NoRow)
                    self.assertIs(refused_by(cuts_of, thing, other), NoRow)


if __name__ == "__main__":
    unittest.main()
