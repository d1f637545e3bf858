import unittest

from mirrorruns.errors import NoMirror, NoRow
from mirrorruns.often import deeps, often, stretches, tops, worthiest
from mirrorruns.reaches import mirrors_many
from mirrorruns.rows import back
from mirrorruns.trees import tree
from things import (
    ALPHABET, NO_MIRRORS, NO_ROWS, all_rows, is_own, long_rows, middling_rows, mirror_stretches, refused_by,
    same_from_both_ends, stays, told,
)

ROWS = all_rows("ab", 8) + all_rows("abc", 5) + middling_rows() + long_rows()


def stretches_by_text(row):
    found = {}
    for first, behind in mirror_stretches(row):
        found.setdefault(row[first:behind], []).append((first, behind))
    return found


# By where the first stretch of each one ends: the order of the tree.
def texts_in_order(found):
    return sorted(found, key=lambda text: min(behind for first, behind in found[text]))


class Often(unittest.TestCase):
    def test_told_by_hand(self):
        for row, wanted in (
            ("", {}), ("a", {"a": 1}), ("aa", {"a": 2, "aa": 1}), ("aba", {"a": 2, "b": 1, "aba": 1}),
            ("banana", {"b": 1, "a": 3, "n": 2, "ana": 2, "nan": 1, "anana": 1}),
        ):
            with self.subTest(row):
                answer = often(row)
                self.assertIs(answer.__class__, dict)
                self.assertEqual(sorted(answer.items()), sorted(wanted.items()))

    def test_against_all_stretches(self):
        for row in ROWS:
            answer = often(row)
            wanted = {text: len(places) for text, places in stretches_by_text(row).items()}
            self.assertEqual(answer, wanted, row)
            self.assertEqual({many.__class__ for many in answer.values()} | {int}, {int}, row)

    def test_its_keys_are_the_texts_of_the_tree(self):
        for row in ROWS:
            self.assertEqual(sorted(often(row)), sorted(entry[0] for entry in tree(row)), row)

    def test_the_dict_is_the_askers_own(self):
        for row in ("", "a", "aabaa"):
            with self.subTest(row):
                self.assertTrue(is_own(often, row))
                self.assertTrue(stays(often, row))


class Stretches(unittest.TestCase):
    def test_each_mirror_of_the_row(self):
        for row in ROWS:
            found = stretches_by_text(row)
            for text in list(found)[:40]:
                self.assertEqual(told(stretches, row, text), repr(sorted(found[text])), (row, text))

    def test_mirrors_of_few_signs_whether_they_stand_there_or_not(self):
        mirrors = [text for text in all_rows("abc", 5) if text != "" and same_from_both_ends(text)]
        for row in all_rows("ab", 5) + all_rows("abc", 3):
            found = stretches_by_text(row)
            for text in mirrors:
                self.assertEqual(told(stretches, row, text), repr(sorted(found.get(text, []))), (row, text))

    def test_mirrors_that_do_not_stand_there(self):
        for row in ("", "ab", "abab", "a" * 199 + "b", "abcabc"):
            for text in ("z", "zz", "bb", "bbb", "aza", "a" * 200, "z" * 200):
                with self.subTest(row=row, text=text):
                    self.assertEqual(told(stretches, row, text), "[]")

    def test_what_is_no_mirror(self):
        for row in ("", "a", "ab", "abab", "abc", ALPHABET, "a" * 200):
            for thing in NO_MIRRORS:
                with self.subTest(row=row, thing=thing):
                    self.assertIs(refused_by(stretches, row, thing), NoMirror)

    def test_the_list_is_the_askers_own(self):
        for row, text in (("", "a"), ("aba", "a"), ("aba", "c"), ("aaaa", "aa")):
            with self.subTest(row=row, text=text):
                self.assertTrue(is_own(stretches, row, text))
                self.assertTrue(stays(stretches, row, text))


class DeepsAndTops(unittest.TestCase):
    def test_told_by_hand(self):
        for row, wanted_deeps, wanted_tops in (
            ("", [], []), ("a", [1], [0]), ("aa", [1, 2], [0, 1]), ("aba", [1, 1, 2], [0, 1, 2]),
            ("abca", [1, 1, 1, 1], [0, 1, 2, 0]), ("aabaa", [1, 2, 1, 2, 3], [0, 1, 2, 3, 4]),
        ):
            with self.subTest(row):
                self.assertEqual(told(deeps, row), repr(wanted_deeps))
                self.assertEqual(told(tops, row), repr(wanted_tops))

    def test_against_all_stretches(self):
        for row in ROWS:
            texts = texts_in_order(stretches_by_text(row))
            ending = [[] for sign in row]
            for first, behind in mirror_stretches(row):
                ending[behind - 1].append(row[first:behind])
            self.assertEqual(told(deeps, row), repr([len(some) for some in ending]), row)
            self.assertEqual(told(tops, row), repr([texts.index(max(some, key=len)) for some in ending]), row)

    def test_the_lists_are_the_askers_own(self):
        for ask in (deeps, tops):
            for row in ("", "a", "aabaa"):
                with self.subTest(ask=ask, row=row):
                    self.assertTrue(is_own(ask, row))
                    self.assertTrue(stays(ask, row))


class Worthiest(unittest.TestCase):
    def test_told_by_hand(self):
        for row, wanted in (
            ("", None), ("a", ("a", 1)), ("ab", ("a", 1)), ("ba", ("b", 1)), ("aa", ("a", 2)), ("abb", ("b", 2)),
            ("aba", ("aba", 3)), ("banana", ("ana", 6)), ("aaa", ("aa", 4)), ("abcb", ("bcb", 3)),
        ):
            with self.subTest(row):
                self.assertEqual(told(worthiest, row), repr(wanted))

    def test_against_all_stretches(self):
        several = 0
        for row in ROWS:
            if row == "":
                continue
            found = stretches_by_text(row)
            worths = [(text, len(text) * len(found[text])) for text in texts_in_order(found)]
            greatest = max(worth for text, worth in worths)
            best = [(text, worth) for text, worth in worths if worth == greatest]
            several += len(best) > 1
            self.assertEqual(told(worthiest, row), repr(best[0]), row)
        self.assertGreater(several, 100)

    def test_the_answer_stays(self):
        for row in ("", "ab", "banana"):
            self.assertTrue(stays(worthiest, row))


# [54]
class WhatFollows(unittest.TestCase):
    def test_together_they_are_the_mirror_stretches(self):
        for row in ROWS:
            self.assertEqual(sum(often(row).values()), mirrors_many(row), row)
            self.assertEqual(sum(deeps(row)), mirrors_many(row), row)

    def test_as_often_as_a_top_and_as_those_stand_whose_less_it_is(self):
        for row in ROWS:
            many = often(row)
            entries = tree(row)
            places = tops(row)
            for number, entry in enumerate(entries):
                longer = sum(many[text] for text, inner, less in entries if less == number)
                self.assertEqual(many[entry[0]], places.count(number) + longer, (row, entry))

    def test_turned_about(self):
        for row in ROWS:
            self.assertEqual(often(back(row)), often(row), row)

    def test_as_many_stretches_as_often(self):
        for row in middling_rows():
            for text, many in often(row).items():
                self.assertEqual(len(stretches(row, text)), many, (row, text))


class NoRowAheadOfAllElse(unittest.TestCase):
    def test_of_one_thing(self):
        for ask in (often, deeps, tops, worthiest):
            for thing in NO_ROWS:
                with self.subTest(ask=ask, thing=thing):
                    self.assertIs(refused_by(ask, thing), NoRow)

    def test_of_two_things(self):
        for thing in NO_ROWS:
            for other in ("a", "aba", "", "ab", "A", 0, True, None, [], (), {}, thing):
                with self.subTest(thing=thing, other=other):
                    self.assertIs(refused_by(stretches, thing, other), NoRow)


if __name__ == "__main__":
    unittest.main()
