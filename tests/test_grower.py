import unittest

from mirrorruns.ends import ends
from mirrorruns.errors import Bare, NoSign, TooMany
from mirrorruns.grower import Grower
from mirrorruns.reaches import mirrors_many
from mirrorruns.trees import tree
from things import (
    ALPHABET, NO_ROWS, all_rows, is_own, long_rows, middling_rows, mirror_stretches, mixed_row, refused_by, stays,
    tree_by_stretches,
)

NO_SIGNS = NO_ROWS + [
    "", "aa", "ab", "aba", "abba", ALPHABET, "a" * 200, "a" * 201, "zz", ["a"], ("a",), {"a": "a"}, [["a"]], "A", "Z",
    "0", "9", " ", "a ", " a", "\n", "a\n", "\na", True, False, None, 0, 1, 97,
]


def grown(row):
    grower = Grower()
    for sign in row:
        grower.add(sign)
    return grower


def all_told(grower):
    return repr((grower.row(), grower.many(), grower.ends(), grower.tree(), grower.mirrors_many()))


# What is to be told, from all stretches of the row: another way than the program's.
def all_by_stretches(row):
    found = mirror_stretches(row)
    entries = tree_by_stretches(row)
    lengths = [behind - first for first, behind in found if behind == len(row)]
    return repr((row, len(entries), sorted(lengths, reverse=True), entries, len(found)))


def told_of_row(row):
    return repr((row, len(tree(row)), ends(row), tree(row), mirrors_many(row)))


def added_by_row(ahead, sign):
    row = ahead + sign
    texts = [entry[0] for entry in tree(row)]
    last = row[len(row) - ends(row)[0]:]
    return repr((texts.index(last), last not in ahead))


class Growing(unittest.TestCase):
    def test_a_new_grower(self):
        self.assertEqual(all_told(Grower()), repr(("", 0, [], [], 0)))

    def test_told_by_hand(self):
        for row, answers in (
            ("aabaca", [(0, True), (1, True), (2, True), (3, True), (4, True), (5, True)]),
            ("abcaba", [(0, True), (1, True), (2, True), (0, False), (1, False), (3, True)]),
            ("aabb", [(0, True), (1, True), (2, True), (3, True)]),
        ):
            grower = Grower()
            for sign, answer in zip(row, answers):
                self.assertEqual(repr(grower.add(sign)), repr(answer))
            self.assertEqual(repr(grower.row()), repr(row))

    def test_signs_one_by_one_against_all_stretches(self):
        for row in all_rows("ab", 6)[-64:] + all_rows("abc", 4)[-81:] + middling_rows():
            grower = Grower()
            for behind in range(1, len(row) + 1):
                answer = grower.add(row[behind - 1])
                self.assertEqual(repr(answer), added_by_row(row[:behind - 1], row[behind - 1]), row[:behind])
                self.assertEqual(all_told(grower), all_by_stretches(row[:behind]), row[:behind])

    def test_signs_one_by_one_against_the_functions_of_the_row(self):
        for row in long_rows() + [(part * 200)[:200] for part in ("aab", "abc", "abba", "aababb")]:
            grower = Grower()
            for behind in range(1, len(row) + 1):
                answer = grower.add(row[behind - 1])
                if behind % 9 == 0 or behind in (1, 2, 199, 200):
                    self.assertEqual(repr(answer), added_by_row(row[:behind - 1], row[behind - 1]), row[:behind])
                    self.assertEqual(all_told(grower), told_of_row(row[:behind]), row[:behind])

    def test_each_letter_is_a_sign(self):
        grower = Grower()
        for number, sign in enumerate(ALPHABET):
            self.assertEqual(repr(grower.add(sign)), repr((number, True)))
        for number, sign in enumerate(ALPHABET[:-1]):
            self.assertEqual(repr(grower.add(sign)), repr((number, False)))


class TakingBack(unittest.TestCase):
    def test_down_to_none_and_up_again(self):
        for row in middling_rows() + long_rows()[:3]:
            grower = Grower()
            ahead = []
            answers = []
            for sign in row:
                ahead.append(all_told(grower))
                answers.append(repr(grower.add(sign)))
            for place in range(len(row) - 1, -1, -1):
                self.assertEqual(repr(grower.take()), repr(row[place]))
                self.assertEqual(all_told(grower), ahead[place], (row, place))
            self.assertEqual(all_told(grower), all_told(Grower()))
            self.assertEqual([repr(grower.add(sign)) for sign in row], answers)
            self.assertEqual(all_told(grower), told_of_row(row))

    def test_other_signs_behind_what_is_left(self):
        for row in ("aabaab", "abcacba", "abababa", "aaaaaaa", "abba"):
            for left in range(len(row) + 1):
                for more in ("a", "b", "c", "ab", "ba", "aba", "bbb", "cabac"):
                    grower = grown(row)
                    for _ in range(len(row) - left):
                        grower.take()
                    for place, sign in enumerate(more):
                        answer = grower.add(sign)
                        self.assertEqual(repr(answer), added_by_row(row[:left] + more[:place], sign))
                    self.assertEqual(all_told(grower), all_by_stretches(row[:left] + more))

    # [43]: whatever was added and taken back, only what stands counts.
    def test_as_another_grower_that_had_just_the_standing_signs_added(self):
        for seed in range(30):
            grower = Grower()
            stands = ""
            for step, turn in enumerate(mixed_row(seed, 90, "aabbct")):
                if turn != "t":
                    self.assertEqual(repr(grower.add(turn)), added_by_row(stands, turn))
                    stands += turn
                elif stands == "":
                    self.assertIs(refused_by(grower.take), Bare)
                else:
                    self.assertEqual(grower.take(), stands[-1])
                    stands = stands[:-1]
                if step % 5 == 0:
                    self.assertEqual(all_told(grower), all_told(grown(stands)))
                    self.assertEqual(all_told(grower), told_of_row(stands))

    def test_bare(self):
        for grower in (Grower(), grown("aba")):
            for _ in grower.row():
                grower.take()
            for _ in range(3):
                self.assertIs(refused_by(grower.take), Bare)
                self.assertEqual(all_told(grower), all_told(Grower()))
            self.assertEqual(grower.add("b"), (0, True))


class Refused(unittest.TestCase):
    def test_no_sign(self):
        for row in ("", "a", "abba", "a" * 199):
            grower = grown(row)
            ahead = all_told(grower)
            for thing in NO_SIGNS:
                with self.subTest(row=row, thing=thing):
                    self.assertIs(refused_by(grower.add, thing), NoSign)
            self.assertEqual(all_told(grower), ahead)
            self.assertEqual(repr(grower.add("a")), added_by_row(row, "a"))

    def test_the_two_hundred_and_first_sign(self):
        for row in long_rows():
            grower = grown((row + "ab")[:200])
            ahead = all_told(grower)
            for sign in ALPHABET:
                self.assertIs(refused_by(grower.add, sign), TooMany)
            self.assertEqual(all_told(grower), ahead)

    def test_no_sign_goes_ahead_of_too_many(self):
        grower = grown("ab" * 100)
        ahead = all_told(grower)
        for thing in NO_SIGNS:
            with self.subTest(thing):
                self.assertIs(refused_by(grower.add, thing), NoSign)
        self.assertEqual(all_told(grower), ahead)

    def test_room_again_where_one_is_taken_back(self):
        grower = grown("a" * 200)
        self.assertIs(refused_by(grower.add, "b"), TooMany)
        self.assertEqual(grower.take(), "a")
        self.assertEqual(repr(grower.add("b")), repr((199, True)))
        self.assertIs(refused_by(grower.add, "b"), TooMany)
        self.assertEqual(all_told(grower), told_of_row("a" * 199 + "b"))


class Own(unittest.TestCase):
    def test_what_is_asked_changes_nothing(self):
        for row in ("", "a", "abba", "aaabaaa"):
            grower = grown(row)
            ahead = all_told(grower)
            for ask in (grower.row, grower.many, grower.ends, grower.tree, grower.mirrors_many):
                self.assertTrue(stays(ask))
            self.assertEqual(all_told(grower), ahead)

    def test_the_lists_are_the_askers_own(self):
        for row in ("", "a", "abba", "aaabaaa"):
            grower = grown(row)
            self.assertTrue(is_own(grower.ends))
            self.assertTrue(is_own(grower.tree))
            self.assertEqual(all_told(grower), told_of_row(row))
            grower.add("b")
            self.assertEqual(all_told(grower), told_of_row(row + "b"))

    def test_lists_told_stay_as_the_row_grows_and_is_taken_back(self):
        grower = grown("aba")
        lengths = grower.ends()
        entries = grower.tree()
        kept = repr((lengths, entries))
        grower.add("a")
        self.assertEqual(repr((lengths, entries)), kept)
        for _ in range(4):
            grower.take()
        self.assertEqual(repr((lengths, entries)), kept)

    def test_two_growers_by_turns(self):
        one = Grower()
        other = Grower()
        for place, sign in enumerate("abbaabab"):
            one.add(sign)
            other.add("c")
            if place % 3 == 2:
                other.take()
        self.assertEqual(all_told(one), told_of_row("abbaabab"))
        self.assertEqual(all_told(other), told_of_row("c" * 6))
        for _ in range(6):
            other.take()
        self.assertIs(refused_by(other.take), Bare)
        self.assertEqual(all_told(one), told_of_row("abbaabab"))
        self.assertEqual(all_told(Grower()), told_of_row(""))


if __name__ == "__main__":
    unittest.main()
