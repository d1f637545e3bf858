"""Growers: a row that grows by one sign after another and is taken back, and what is told of it as it stands."""

from mirrorruns.errors import Bare, NoSign, TooMany
from mirrorruns.rows import MOST_SIGNS, is_row
from mirrorruns.trees import longest_entry


# A mirror of two signs or more that ends with the new sign is, without its first and last one, an end of the row ahead
# or has no sign; so the ends ahead are all that has to be looked at.
def ends_with(row, lengths, sign):
    longer = [length + 2 for length in lengths + [0] if length < len(row) and row[len(row) - 1 - length] == sign]
    return longer + [1]


# Of each sign is kept which ends the row had with it, and whether it brought a mirror: so it can be taken back.
class Grower:
    def __init__(self):
        self.signs = ""
        self.endings = []
        self.brought = []
        self.entries = []
        self.numbers = {}

    def add(self, sign):
        if not is_row(sign) or len(sign) != 1:
            raise NoSign("a sign is one letter a to z")
        if len(self.signs) == MOST_SIGNS:
            raise TooMany("a row has 200 signs at most")
        self.endings.append(ends_with(self.signs, self.ends(), sign))
        self.signs = self.signs + sign
        entry = longest_entry(self.signs, self.ends(), self.numbers)
        new = entry[0] not in self.numbers
        self.brought.append(new)
        if new:
            self.numbers[entry[0]] = len(self.entries)
            self.entries.append(entry)
        return (self.numbers[entry[0]], new)

    def take(self):
        if self.signs == "":
            raise Bare("there is no sign to take back")
        sign = self.signs[-1]
        self.signs = self.signs[:-1]
        self.endings.pop()
        if self.brought.pop():
            entry = self.entries.pop()
            self.numbers.pop(entry[0])
        return sign

    def row(self):
        return self.signs

    def many(self):
        return len(self.entries)

    def ends(self):
        return list(self.endings[-1]) if self.endings != [] else []

    def tree(self):
        return list(self.entries)

    # Each mirror stretch ends with one sign, and with each sign end as many as the row then had ends.
    def mirrors_many(self):
        return sum([len(lengths) for lengths in self.endings])
