"""The kinds that all of the program speaks of: whole numbers and stretches."""


# To Python a truth is an int too, so it has to be told apart here.
def is_whole(thing):
    return isinstance(thing, int) and not isinstance(thing, bool)


# By == alone True would pass for 1, and False for 0.
def is_same_number(thing, number):
    return is_whole(thing) and thing == number


def is_stretch(thing, length):
    if not isinstance(thing, tuple) or len(thing) != 2:
        return False
    if not is_whole(thing[0]) or not is_whole(thing[1]):
        return False
    return 0 <= thing[0] <= thing[1] <= length
