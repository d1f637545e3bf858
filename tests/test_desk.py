import unittest

from mirrorruns.cuts import cuts_many, cuts_of, fewest, fewest_even
from mirrorruns.desk import Desk
from mirrorruns.errors import Bare, NoLine, TooLong, TooMany
from mirrorruns.mends import mended_ahead, mended_behind, signs_more
from things import (
    ALPHABET, OTHER_KINDS, TEXTS_THAT_ARE_NO_ROWS, long_rows, middling_rows, mirror_stretches, mixed_row, refused_by,
    small_rows, tree_by_stretches,
)

WORDS_ALONE = (
    "row", "back", "kinds", "full", "last", "tree", "longest", "fewest", "cuts", "even", "more", "behind", "ahead",
)
ALL_WORDS = WORDS_ALONE + ("add", "take", "clear")


def desk_with(row):
    desk = Desk()
    if row != "":
        desk.say("add " + row)
    return desk


def or_none(text):
    return text if text != "" else "none"


def answers_by_row(row):
    found = mirror_stretches(row)
    texts = [entry[0] for entry in tree_by_stretches(row)]
    ending = [row[first:behind] for first, behind in found if behind == len(row)]
    first, behind = max(found, key=lambda stretch: (stretch[1] - stretch[0], -stretch[0]), default=(None, None))
    even = fewest_even(row)
    wanted = {
        "row": or_none(row),
        "back": or_none(row[::-1]),
        "kinds": str(len(texts)),
        "full": "yes" if len(texts) == len(row) else "no",
        "last": max(ending, key=len, default="none"),
        "tree": or_none(" ".join(texts)),
        "longest": "none" if first is None else "%d-%d" % (first, behind),
        "fewest": str(fewest(row)),
        "cuts": str(cuts_many(row)),
        "cuts 0": str(cuts_of(row, 0)),
        "cuts 1": str(cuts_of(row, 1)),
        "cuts 3": str(cuts_of(row, 3)),
        "cuts 9999": "0",
        "even": "never" if even is None else str(even),
    }
    if len(row) <= 60:
        wanted.update({
            "more": str(signs_more(row)), "behind": or_none(mended_behind(row)), "ahead": or_none(mended_ahead(row)),
        })
    return wanted


class Asked(unittest.TestCase):
    def test_told_by_hand(self):
        desk = Desk()
        for line, wanted in (
            ("add ab", "2"), ("add a", "3"), ("row", "aba"), ("kinds", "3"), ("full", "yes"), ("last", "aba"),
            ("tree", "a b aba"), ("longest", "0-3"), ("fewest", "1"), ("cuts", "2"), ("cuts 3", "1"), ("cuts 2", "0"),
            ("even", "never"), ("more", "0"), ("behind", "aba"), ("ahead", "aba"), ("add c", "4"), ("back", "caba"),
            ("row", "abac"), ("last", "c"), ("longest", "0-3"), ("more", "1"), ("behind", "abacaba"),
            ("ahead", "cabac"), ("take 2", "2"), ("row", "ab"), ("take", "1"), ("add abb", "4"), ("row", "aabb"),
            ("even", "2"), ("add caa", "7"), ("full", "no"), ("kinds", "5"), ("clear", "0"), ("row", "none"),
        ):
            with self.subTest(line):
                self.assertEqual(repr(desk.say(line)), repr(wanted))

    def test_without_signs(self):
        fresh = Desk()
        emptied = desk_with("abba")
        emptied.say("take 4")
        cleared = desk_with("abba")
        cleared.say("clear")
        for desk in (fresh, emptied, cleared):
            for line, wanted in (
                ("row", "none"), ("back", "none"), ("kinds", "0"), ("full", "yes"), ("last", "none"), ("tree", "none"),
                ("longest", "none"), ("fewest", "0"), ("cuts", "1"), ("cuts 0", "1"), ("cuts 1", "0"), ("even", "0"),
                ("more", "0"), ("behind", "none"), ("ahead", "none"), ("clear", "0"), ("take 0", "0"),
            ):
                with self.subTest(line):
                    self.assertEqual(repr(desk.say(line)), repr(wanted))

    def test_against_the_row(self):
        for row in small_rows()[::3] + middling_rows() + long_rows():
            desk = desk_with(row)
            for line, wanted in answers_by_row(row).items():
                self.assertEqual(repr(desk.say(line)), repr(wanted), (row, line))
            self.assertEqual(desk.say("row"), or_none(row))

    def test_signs_added_one_by_one_and_taken(self):
        row = mixed_row(4, 40, "abc")
        desk = Desk()
        for place, sign in enumerate(row):
            self.assertEqual(desk.say("add " + sign), str(place + 1))
            self.assertEqual(desk.say("last"), answers_by_row(row[:place + 1])["last"])
        for place in range(len(row) - 1, -1, -1):
            self.assertEqual(desk.say("take"), str(place))
            self.assertEqual(desk.say("row"), or_none(row[:place]))

    def test_what_is_asked_changes_nothing(self):
        for row in ("", "a", "abca", "ab" * 30, "ab" * 100):
            desk = desk_with(row)
            for line in ("take 0",) + tuple(answers_by_row(row)):
                first = desk.say(line)
                self.assertEqual(desk.say("row"), or_none(row))
                self.assertEqual(desk.say(line), first)


class Numbers(unittest.TestCase):
    def test_of_one_to_four_figures(self):
        for line, wanted in (
            ("take 0", "200"), ("take 7", "193"), ("take 10", "183"), ("take 100", "83"), ("cuts 9", None),
            ("cuts 83", "1"), ("cuts 84", "0"), ("cuts 100", "0"), ("cuts 1000", "0"), ("cuts 9999", "0"),
        ):
            if line == "take 0":
                desk = desk_with("a" * 200)
            answer = desk.say(line)
            self.assertEqual(answer, str(cuts_of("a" * 83, 9)) if wanted is None else wanted, line)

    def test_every_number_that_may_be_taken(self):
        for many in range(0, 201):
            desk = desk_with("ab" * 100)
            self.assertEqual(desk.say("take %d" % many), str(200 - many))
            self.assertEqual(desk.say("row"), or_none(("ab" * 100)[:200 - many]))

    def test_no_numbers(self):
        for row in ("", "abba", "a" * 200):
            desk = desk_with(row)
            for word in (
                "00", "01", "001", "0000", "0001", "00000", "10000", "12345", "00001", "99999", "-1", "-0", "+1", "1.0",
                "1,", "1a", "a1", "a", "x", "one", "0x1", "1_0", "1e1", "", "1\n", "\n1", "\t1", "1\t", "True", "None",
                "none", "1-2", "\u0661", "\u00b2", "\uff11", "123456789012345678901234567890",
            ):
                for line in ("take " + word, "cuts " + word):
                    with self.subTest(row=row, line=line):
                        self.assertIs(refused_by(desk.say, line), NoLine)
            self.assertEqual(desk.say("row"), or_none(row))


class Refused(unittest.TestCase):
    def test_more_taken_than_there_are(self):
        for row in ("", "a", "aba", "a" * 199, "a" * 200):
            desk = desk_with(row)
            for many in (len(row) + 1, len(row) + 2, 201, 999, 1000, 9999):
                self.assertIs(refused_by(desk.say, "take %d" % many), Bare)
                self.assertEqual(desk.say("row"), or_none(row))
        self.assertIs(refused_by(Desk().say, "take"), Bare)
        self.assertIs(refused_by(Desk().say, "take 1"), Bare)
        self.assertEqual(Desk().say("take 0"), "0")

    def test_adding_up_to_200_signs_and_beyond(self):
        for row in ("", "a", "ab" * 50, "a" * 199, "a" * 200):
            left = 200 - len(row)
            for more in range(1, 201):
                desk = desk_with(row)
                line = "add " + "b" * more
                if more <= left:
                    self.assertEqual(desk.say(line), str(len(row) + more))
                    self.assertEqual(desk.say("row"), row + "b" * more)
                else:
                    self.assertIs(refused_by(desk.say, line), TooMany)
                    self.assertEqual(desk.say("row"), or_none(row))

    # A text of more than 200 letters is no row.
    def test_what_is_added_is_no_row(self):
        for row in ("", "abba", "a" * 200):
            desk = desk_with(row)
            for word in TEXTS_THAT_ARE_NO_ROWS + [""]:
                with self.subTest(row=row, word=word):
                    self.assertIs(refused_by(desk.say, "add " + word), NoLine)
            self.assertEqual(desk.say("row"), or_none(row))

    def test_60_and_61_signs(self):
        for row in ("a" * 60, "ab" * 30, mixed_row(8, 60, ALPHABET)):
            for word in ("more", "behind", "ahead"):
                desk = desk_with(row)
                self.assertEqual(desk.say(word), answers_by_row(row)[word])
                desk.say("add b")
                self.assertIs(refused_by(desk.say, word), TooLong)
                self.assertEqual(desk.say("row"), row + "b")
                desk.say("add " + "c" * 139)
                self.assertIs(refused_by(desk.say, word), TooLong)
                desk.say("take 140")
                self.assertEqual(desk.say(word), answers_by_row(row)[word])

    def test_no_lines(self):
        lines = ["", " ", "  ", "\n", "none", "yes", "no", "never", "abba", "a", "0", "7", "grow", "rows", "ro", "quit"]
        for word in ALL_WORDS:
            lines.extend((word.upper(), word.capitalize(), word[:-1], word + "s", word[1:], word + word, "x" + word))
            lines.extend((" " + word, word + " ", word + "  ", word + "\n", "\n" + word, word + "\t", word + "\r"))
            for behind in (
                ".", ",", ";", "\0", " a b", " 1 2", "\na", "  a", "  1", " a ", " 1 ", "\ta", "\t1", "a", "1", " A",
                " -1", " a1", " 1a",
            ):
                lines.append(word + behind)
            lines.extend(("a " + word, "1 " + word))
            if word != "add":
                lines.extend((word + " a", word + " " + word, word + " row", word + " none"))
            if word not in ("take", "cuts"):
                lines.extend((word + " 0", word + " 1", word + " 10"))
        lines.extend(("add", "add ", "add  ab", "add ab ", "add ab cd", "add a b", " add ab", "add aB", "Add ab"))
        lines.extend(("take one", "take 1 1", "take  1", "clear 0", "clear all", "cuts 1 1", "cuts  1", "take -1"))
        lines = [line for line in lines if line not in ALL_WORDS or line == "add"]
        for row in ("", "abba", "ab" * 100):
            desk = desk_with(row)
            for line in lines:
                with self.subTest(row=row, line=line):
                    self.assertIs(refused_by(desk.say, line), NoLine)
            self.assertEqual(desk.say("row"), or_none(row))

    def test_things_that_are_no_text(self):
        for row in ("", "abba"):
            desk = desk_with(row)
            for thing in OTHER_KINDS + [["row"], ("row",), {"row": "row"}, ["add", "a"], [["add a"]], {"add": "a"}]:
                with self.subTest(row=row, thing=thing):
                    self.assertIs(refused_by(desk.say, thing), NoLine)
            self.assertEqual(desk.say("row"), or_none(row))


class TwoDesks(unittest.TestCase):
    def test_by_turns(self):
        one = Desk()
        other = Desk()
        for place in range(8):
            one.say("add ab")
            other.say("add c")
            if place % 2:
                one.say("take")
        self.assertEqual(one.say("row"), "aba" * 4)
        self.assertEqual(other.say("row"), "c" * 8)
        one.say("clear")
        self.assertEqual(one.say("row"), "none")
        self.assertEqual(other.say("row"), "c" * 8)
        self.assertEqual(Desk().say("row"), "none")


if __name__ == "__main__":
    unittest.main()
