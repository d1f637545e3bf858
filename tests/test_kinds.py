import unittest

from mirrorruns.kinds import is_same_number, is_stretch, is_whole
from things import NO_ROWS


class WholeNumbers(unittest.TestCase):
    def test_whole_numbers(self):
        for thing in (0, 1, -1, 200, 10 ** 40 - 1, -(10 ** 40 - 1)):
            with self.subTest(thing):
                self.assertIs(is_whole(thing), True)

    def test_a_truth_is_no_whole_number(self):
        self.assertIs(is_whole(True), False)
        self.assertIs(is_whole(False), False)

    def test_things_of_other_kinds(self):
        for thing in ("", "0", "a", None, [], [0], (), (0,), {}, {0: 0}):
            with self.subTest(thing):
                self.assertIs(is_whole(thing), False)


class SameNumbers(unittest.TestCase):
    def test_numbers_alike_and_unlike(self):
        for thing in (0, 1, -1, 10 ** 40 - 1):
            for number in (0, 1, -1, 10 ** 40 - 1):
                with self.subTest(thing=thing, number=number):
                    self.assertIs(is_same_number(thing, number), thing == number)

    def test_things_of_other_kinds(self):
        for thing in (True, False, None, "0", "1", [], [0], (1,), {}):
            for number in (0, 1):
                with self.subTest(thing=thing, number=number):
                    self.assertIs(is_same_number(thing, number), False)


class Stretches(unittest.TestCase):
    def test_pairs_within_and_beyond(self):
        for length in range(5):
            for first in range(-2, length + 3):
                for behind in range(-2, length + 3):
                    with self.subTest(length=length, first=first, behind=behind):
                        wanted = first >= 0 and behind >= first and length >= behind
                        self.assertIs(is_stretch((first, behind), length), wanted)

    def test_things_of_other_kinds(self):
        for thing in NO_ROWS:
            if repr(thing) not in ("(0, 0)", "(0, 1)"):
                with self.subTest(thing):
                    self.assertIs(is_stretch(thing, 200), False)


if __name__ == "__main__":
    unittest.main()
