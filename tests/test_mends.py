import unittest
from itertools import combinations

from mirrorruns.errors import NoRow, TooLong
from mirrorruns.mends import (
    is_mend_table, lies_in, mend_table, mended, mended_ahead, mended_behind, rest, signs_more,
)
from mirrorruns.rows import is_mirror
from things import (
    ALPHABET, GREAT, NO_ROWS, all_rows, is_own, joined_row, long_rows, middling_rows, mixed_row, refused_by,
    same_from_both_ends, stays, told,
)

FEW_SIGNS = all_rows("ab", 7) + all_rows("abc", 5)[1:]
FEW_ROWS = ["a", "aa", "ab", "aba", "abb", "abca", "abcab", "banana"]
ROWS_OF_60 = [
    "a" * 60, "ab" * 30, "abc" * 20, (ALPHABET * 3)[:60], "a" * 59 + "b", mixed_row(3, 60, "ab"),
    mixed_row(4, 60, "abc"), mixed_row(5, 60, ALPHABET), joined_row("a", "ab", 60),
    mixed_row(6, 30, "abc") + mixed_row(6, 30, "abc")[::-1],
]
MIDDLING = [row for row in middling_rows() if len(row) <= 60]
OF_ONE_ROW = (signs_more, mended, rest, mend_table, mended_behind, mended_ahead)


def lies_in_by_hand(row, other, places):
    return len(places) == len(row) and places == sorted(set(places)) and all(
        place in range(len(other)) and other[place] == sign for place, sign in zip(places, row)
    )


def can_lie_in(row, other):
    place = 0
    for sign in row:
        place = other.find(sign, place) + 1
        if place == 0:
            return False
    return True


# All mirrors of so many signs: the first half of each is drawn freely, the other half follows.
def all_mirrors(letters, length):
    halves = [half for half in all_rows(letters, (length + 1) // 2) if len(half) == (length + 1) // 2]
    return [half + half[:length // 2][::-1] for half in halves]


def fewest_more_by_mirrors(row):
    letters = "".join(sorted(set(row)))
    more = 0
    while not any(can_lie_in(row, mirror) for mirror in all_mirrors(letters, len(row) + more)):
        more += 1
    return more


def longest_inside_by_places(row):
    for length in range(len(row), 0, -1):
        for places in combinations(range(len(row)), length):
            if same_from_both_ends([row[place] for place in places]):
                return length
    return 0


# Word for word as the document has it, from the whole row inward.
def table_by_words(row):
    table = {}

    def number(first, behind):
        if (first, behind) not in table:
            if behind - first == 1:
                table[(first, behind)] = 0
            elif row[first] == row[behind - 1]:
                table[(first, behind)] = 0 if behind - first == 2 else number(first + 1, behind - 1)
            else:
                table[(first, behind)] = 1 + min(number(first + 1, behind), number(first, behind - 1))
        return table[(first, behind)]

    for first in range(len(row)):
        for behind in range(first + 1, len(row) + 1):
            number(first, behind)
    return table


def drawn_places(seed, many, length):
    order = sorted(range(length), key=lambda place: (mixed_row(seed * 131 + place, 3, ALPHABET), place))
    return sorted(order[:many])


class LiesIn(unittest.TestCase):
    def drawn(self):
        for seed in range(60):
            length = (seed * 7) % 25
            other = mixed_row(seed, length, "abc")
            places = drawn_places(seed, seed % (length + 1), length)
            yield "".join(other[place] for place in places), other, places

    def test_told_by_hand(self):
        for row, other, places, wanted in (
            ("", "", [], True), ("", "abc", [], True), ("a", "a", [0], True), ("ac", "abc", [0, 2], True),
            ("ac", "abc", [0, 1], False), ("a", "", [0], False), ("a", "", [], False), ("", "a", [0], False),
            ("aa", "a", [0, 0], False), ("ba", "ab", [1, 0], False), ("ab", "ab", [0, 1], True),
        ):
            with self.subTest(row=row, other=other, places=places):
                self.assertIs(lies_in(row, other, places), wanted)

    def test_drawn_places(self):
        for row, other, places in self.drawn():
            self.assertIs(lies_in(row, other, places), True, (row, other, places))

    def test_tampered_places(self):
        for row, other, places in self.drawn():
            for number, place in enumerate(places):
                self.assertIs(lies_in(row, other, places[:number] + places[number + 1:]), False)
                self.assertIs(lies_in(row, other, places[:number] + [place] + places[number:]), False)
                for moved in (place - 1, place + 1, -1, -place, place - len(other), len(other), GREAT, -GREAT, 0):
                    some = places[:number] + [moved] + places[number + 1:]
                    self.assertIs(lies_in(row, other, some), lies_in_by_hand(row, other, some), (row, other, some))
                for thing in (
                    True, False, bool(place), None, "", str(place), [place], (place,), {}, {place: place}, [],
                    "a" * 5000,
                ):
                    some = places[:number] + [thing] + places[number + 1:]
                    self.assertIs(lies_in(row, other, some), False, (row, other, some))
                for later in range(number + 1, len(places)):
                    some = list(places)
                    some[number], some[later] = some[later], some[number]
                    self.assertIs(lies_in(row, other, some), False, (row, other, some))
            for thing in (
                tuple(places), [places], (places,), str(places), dict(enumerate(places)), dict.fromkeys(places),
            ):
                self.assertIs(lies_in(row, other, thing), False, (row, other, thing))

    def test_all_places_of_few_signs(self):
        for row in all_rows("ab", 3):
            for other in all_rows("ab", 4):
                for many in range(4):
                    for places in combinations(range(-1, len(other) + 1), many):
                        wanted = lies_in_by_hand(row, other, list(places))
                        self.assertIs(lies_in(row, other, list(places)), wanted, (row, other, places))

    def test_a_truth_in_the_place_of_0_or_1(self):
        self.assertIs(lies_in("ab", "ab", [0, 1]), True)
        for places in ([False, True], [0, True], [False, 1]):
            self.assertIs(lies_in("ab", "ab", places), False)

    def test_things_of_other_kinds(self):
        for row, other in (("", ""), ("", "ab"), ("a", "ab"), ("b", "ab"), ("ab", "ab"), ("a" * 60, "a" * 120)):
            for thing in NO_ROWS + ["", "a", "ab"]:
                wanted = thing.__class__ is list and all(place.__class__ is int for place in thing) and (
                    lies_in_by_hand(row, other, thing)
                )
                self.assertIs(lies_in(row, other, thing), wanted, (row, other, thing))
                self.assertTrue(stays(lies_in, row, other, thing))

    def test_as_long_as_may_be(self):
        self.assertIs(lies_in("a" * 60, "a" * 120, list(range(0, 120, 2))), True)
        self.assertIs(lies_in("a" * 60, "a" * 120, list(range(0, 120, 2))[:-1] + [120]), False)
        self.assertIs(lies_in("", "a" * 120, []), True)

    def test_too_long(self):
        for row, other in (
            ("a" * 61, "a" * 61), ("a" * 61, ""), ("a", "a" * 121), ("a" * 60, "a" * 121), ("", "a" * 200),
            ("a" * 200, "a" * 200), ("a" * 61, "a" * 121),
        ):
            for places in ([], [0], list(range(len(row))), None, "a", True):
                with self.subTest(row=row, other=other, places=places):
                    self.assertIs(refused_by(lies_in, row, other, places), TooLong)

    def test_no_row_of_either_goes_ahead_of_too_long(self):
        for thing in NO_ROWS:
            for other in ("", "a", "a" * 60, "a" * 61, "a" * 120, "a" * 121, "a" * 200, thing):
                for places in ([], [0], None, thing):
                    self.assertIs(refused_by(lies_in, thing, other, places), NoRow, (thing, other))
                    self.assertIs(refused_by(lies_in, other, thing, places), NoRow, (thing, other))


class SignsMore(unittest.TestCase):
    def test_told_by_hand(self):
        for row, wanted in (
            ("", 0), ("a", 0), ("aa", 0), ("ab", 1), ("aba", 0), ("abc", 2), ("abca", 1), ("banana", 1), ("abcde", 4),
            ("aabb", 2), ("a" * 60, 0), ("ab" * 30, 1), ("a" * 59 + "b", 1), ("a" * 30 + "b" * 30, 30),
        ):
            with self.subTest(row):
                self.assertEqual(told(signs_more, row), repr(wanted))

    def test_against_all_mirrors_in_which_the_row_lies(self):
        for row in all_rows("ab", 6) + all_rows("abc", 4)[1:]:
            self.assertEqual(told(signs_more, row), repr(fewest_more_by_mirrors(row)), row)

    def test_against_all_mirrors_that_lie_in_the_row(self):
        for row in FEW_SIGNS:
            length = longest_inside_by_places(row)
            self.assertEqual(told(signs_more, row), repr(len(row) - length), row)
            self.assertEqual(len(rest(row)[0]), length, row)

    def test_none_just_for_mirrors_and_the_row_without_signs(self):
        for row in FEW_SIGNS + MIDDLING:
            self.assertIs(signs_more(row) == 0, same_from_both_ends(row), row)


class MendedAndRest(unittest.TestCase):
    def test_told_by_hand(self):
        for row, more, inside in (
            ("", ("", []), ("", [])), ("a", ("a", [0]), ("a", [0])), ("aba", ("aba", [0, 1, 2]), ("aba", [0, 1, 2])),
            ("abba", ("abba", [0, 1, 2, 3]), ("abba", [0, 1, 2, 3])),
            ("banana", ("bananab", [0, 1, 2, 3, 4, 5]), ("anana", [1, 2, 3, 4, 5])),
        ):
            with self.subTest(row):
                self.assertEqual(told(mended, row), repr(more))
                self.assertEqual(told(rest, row), repr(inside))

    def test_the_mirror_has_so_many_signs_more_and_the_row_lies_in_it(self):
        for row in FEW_SIGNS + MIDDLING + ROWS_OF_60:
            answer = mended(row)
            self.assertEqual((answer.__class__, len(answer)), (tuple, 2))
            text, places = answer
            self.assertIs(is_mirror(text), row != "", row)
            self.assertTrue(same_from_both_ends(text), row)
            self.assertEqual(len(text), len(row) + signs_more(row), row)
            self.assertIs(places.__class__, list)
            self.assertEqual({place.__class__ for place in places} | {int}, {int})
            self.assertTrue(lies_in_by_hand(row, text, places), (row, text, places))
            self.assertIs(lies_in(row, text, places), True, (row, text, places))

    def test_the_rest_is_a_mirror_that_lies_in_the_row(self):
        for row in FEW_SIGNS + MIDDLING + ROWS_OF_60:
            answer = rest(row)
            self.assertEqual((answer.__class__, len(answer)), (tuple, 2))
            text, places = answer
            self.assertIs(is_mirror(text), row != "", row)
            self.assertEqual(len(text) + signs_more(row), len(row), row)
            self.assertIs(places.__class__, list)
            self.assertEqual({place.__class__ for place in places} | {int}, {int})
            self.assertTrue(lies_in_by_hand(text, row, places), (row, text, places))
            self.assertIs(lies_in(text, row, places), True, (row, text, places))

    def test_the_lists_are_the_askers_own(self):
        for ask in (mended, rest):
            for row in ("", "a", "abca", "abcd"):
                with self.subTest(ask=ask, row=row):
                    self.assertTrue(is_own(ask, row))

    def test_told_again_the_same(self):
        for ask in OF_ONE_ROW:
            for row in ["", "a", "abca", "abcd"] + ROWS_OF_60[-3:]:
                with self.subTest(ask=ask, row=row):
                    self.assertTrue(stays(ask, row))

    def test_what_is_told_may_be_too_long_to_be_handed_in_again(self):
        text = mended((ALPHABET * 3)[:60])[0]
        self.assertGreater(len(text), 60)
        self.assertIs(refused_by(signs_more, text), TooLong)
        self.assertIs(refused_by(lies_in, text, text, list(range(len(text)))), TooLong)


class MendTable(unittest.TestCase):
    def test_told_by_hand(self):
        for row, wanted in (
            ("", {}), ("a", {(0, 1): 0}), ("aa", {(0, 1): 0, (1, 2): 0, (0, 2): 0}),
            ("ab", {(0, 1): 0, (1, 2): 0, (0, 2): 1}),
            ("abc", {(0, 1): 0, (1, 2): 0, (2, 3): 0, (0, 2): 1, (1, 3): 1, (0, 3): 2}),
        ):
            with self.subTest(row):
                self.assertEqual(repr(sorted(mend_table(row).items())), repr(sorted(wanted.items())))

    def test_against_the_words(self):
        for row in FEW_SIGNS + MIDDLING + ROWS_OF_60:
            answer = mend_table(row)
            self.assertIs(answer.__class__, dict)
            wanted = table_by_words(row)
            self.assertEqual(repr(sorted(answer.items())), repr(sorted(wanted.items())), row)
            self.assertEqual(wanted.get((0, len(row)), 0), signs_more(row), row)

    def test_each_number_is_the_fewest_of_its_stretch(self):
        for row in FEW_ROWS:
            for (first, behind), number in mend_table(row).items():
                self.assertEqual(number, fewest_more_by_mirrors(row[first:behind]), (row, first, behind))

    def test_the_dict_is_the_askers_own(self):
        for row in ("", "a", "abca"):
            with self.subTest(row):
                self.assertTrue(is_own(mend_table, row))
                thing = mend_table(row)
                self.assertIs(is_mend_table(thing, row), True)
                thing[(0, 0)] = 0
                self.assertIs(is_mend_table(thing, row), False)
                self.assertIs(is_mend_table(mend_table(row), row), True)


class IsMendTable(unittest.TestCase):
    def refused_as_table(self, thing, row):
        self.assertIs(is_mend_table(thing, row), False, (thing, row))

    def test_the_very_table_in_whatever_order(self):
        for row in FEW_SIGNS + MIDDLING + ROWS_OF_60:
            wanted = table_by_words(row)
            for thing in (wanted, mend_table(row), dict(sorted(wanted.items())), dict(reversed(list(wanted.items())))):
                self.assertIs(is_mend_table(thing, row), True, row)

    def test_a_stretch_left_out_or_put_in(self):
        for row in FEW_ROWS:
            right = table_by_words(row)
            for key in right:
                self.refused_as_table({other: right[other] for other in right if other != key}, row)
            for key in (
                (0, 0), (len(row), len(row)), (0, len(row) + 1), (-1, 0), (1, 0), (-1, len(row)), (), (0,), (0, 1, 2),
                None, 0, 1, True, "", "a", "(0, 1)", GREAT, (0, GREAT), ("0", "1"), (None, None), ((0, 1),),
            ):
                for number in (0, 1, None):
                    self.refused_as_table({**right, key: number}, row)

    def test_a_number_changed(self):
        for row in FEW_ROWS:
            right = table_by_words(row)
            for key, number in right.items():
                for thing in (
                    number + 1, number - 1, -1, 200, GREAT, -GREAT, True, False, None, "", str(number), [number],
                    (number,), {}, {number: number}, [], "a" * 5000,
                ):
                    self.refused_as_table({**right, key: thing}, row)

    def test_a_truth_in_the_place_of_0_or_1(self):
        for row in FEW_ROWS:
            right = table_by_words(row)
            for key, number in right.items():
                if number in (0, 1):
                    self.refused_as_table({**right, key: bool(number)}, row)

    def test_a_key_of_another_kind(self):
        for row in FEW_ROWS:
            right = table_by_words(row)
            for key in right:
                others = [key[::-1], key + (0,), key[:1], (key,), str(key), key[0], (str(key[0]), key[1]), None]
                others.extend((key[0], key[1] + step) for step in (200, -200))
                if key[0] in (0, 1):
                    others.append((bool(key[0]), key[1]))
                if key[1] in (0, 1):
                    others.append((key[0], bool(key[1])))
                for other in others:
                    items = [(other if one == key else one, number) for one, number in right.items()]
                    self.refused_as_table(dict(items), row)

    def test_of_another_row(self):
        rows = all_rows("ab", 4) + all_rows("abc", 3)
        tables = [table_by_words(row) for row in rows]
        for row, right in zip(rows, tables):
            for other in tables:
                self.assertIs(is_mend_table(other, row), other == right, (row, other))

    def test_things_of_other_kinds(self):
        for row in FEW_ROWS:
            right = table_by_words(row)
            things = [row, list(right), list(right.items()), tuple(right.items()), [right], (right,), str(right)]
            for thing in NO_ROWS + things + ["", "a", {0: right}]:
                self.refused_as_table(thing, row)

    def test_the_row_without_signs(self):
        self.assertIs(is_mend_table({}, ""), True)
        for thing in NO_ROWS + ["", "a", {(0, 0): 0}, {(0, 1): 0}, {None: None}, {"": 0}]:
            if thing != {}:
                self.refused_as_table(thing, "")

    def test_nothing_is_changed_and_the_answer_stays(self):
        right = table_by_words("aba")
        for thing in NO_ROWS + [right, {**right, (0, 3): [0]}, {**right, (0, 3): False}]:
            with self.subTest(thing):
                self.assertTrue(stays(is_mend_table, thing, "aba"))


class MendedBehindAndAhead(unittest.TestCase):
    def test_told_by_hand(self):
        for row, behind, ahead in (
            ("", "", ""), ("a", "a", "a"), ("ab", "aba", "bab"), ("aab", "aabaa", "baab"), ("abb", "abba", "bbabb"),
            ("abc", "abcba", "cbabc"), ("abba", "abba", "abba"), ("banana", "bananab", "ananabanana"),
            ("a" * 60, "a" * 60, "a" * 60), ("a" * 59 + "b", "a" * 59 + "b" + "a" * 59, "b" + "a" * 59 + "b"),
        ):
            with self.subTest(row):
                self.assertEqual(told(mended_behind, row), repr(behind))
                self.assertEqual(told(mended_ahead, row), repr(ahead))

    # By putting more and more of the row, backwards, behind or ahead, until it reads alike.
    def test_the_fewest_that_do(self):
        for row in FEW_SIGNS + MIDDLING + ROWS_OF_60:
            more = 0
            while not same_from_both_ends(row + row[:more][::-1]):
                more += 1
            self.assertEqual(told(mended_behind, row), repr(row + row[:more][::-1]), row)
            more = 0
            while not same_from_both_ends(row[len(row) - more:][::-1] + row):
                more += 1
            self.assertEqual(told(mended_ahead, row), repr(row[len(row) - more:][::-1] + row), row)

    def test_against_all_texts_put_to_few_signs(self):
        for row in all_rows("ab", 4):
            least = min(len(more) for more in all_rows("ab", 3) if same_from_both_ends(row + more))
            self.assertEqual(len(mended_behind(row)), len(row) + least, row)
            least = min(len(more) for more in all_rows("ab", 3) if same_from_both_ends(more + row))
            self.assertEqual(len(mended_ahead(row)), len(row) + least, row)


class Refused(unittest.TestCase):
    def test_60_signs_and_61(self):
        for ask in OF_ONE_ROW:
            for row in ROWS_OF_60:
                with self.subTest(ask=ask, row=row):
                    self.assertEqual(len(row), 60)
                    self.assertIs(refused_by(ask, row), None)
                    self.assertIs(refused_by(ask, row + "a"), TooLong)
            for row in long_rows():
                self.assertIs(refused_by(ask, row), TooLong)

    def test_too_long_whatever_the_thing(self):
        for thing in NO_ROWS + [mend_table("a" * 60)]:
            self.assertIs(refused_by(is_mend_table, thing, "a" * 61), TooLong)
            self.assertIs(refused_by(is_mend_table, thing, "a" * 60), None)

    def test_no_row_goes_ahead_of_all_else(self):
        for thing in NO_ROWS:
            for ask in OF_ONE_ROW:
                with self.subTest(ask=ask, thing=thing):
                    self.assertIs(refused_by(ask, thing), NoRow)
            for other in ({}, {(0, 1): 0}, None, "a", "a" * 61, [], 0, True, thing):
                self.assertIs(refused_by(is_mend_table, other, thing), NoRow, (thing, other))


if __name__ == "__main__":
    unittest.main()
