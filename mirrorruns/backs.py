"""Rows from reaches: which places reaches ask to be alike and unlike, and the first row that has them."""

from mirrorruns.errors import NoReaches
from mirrorruns.kinds import is_whole
from mirrorruns.rows import LETTERS

MOST_MIDDLES = 119


def are_form(thing):
    if not isinstance(thing, list) or len(thing) > MOST_MIDDLES:
        return False
    if len(thing) % 2 == 0:
        return len(thing) == 0
    return all([fits(length, middle, len(thing)) for middle, length in enumerate(thing)])


# A stretch of this length begins at (middle + 1 - length) / 2 and ends ahead of (middle + 1 + length) / 2.
def fits(length, middle, middles):
    if not is_whole(length) or length % 2 == middle % 2:
        return False
    return 0 <= length <= min(middle + 1, middles - middle)


def need_form(thing):
    if not are_form(thing):
        raise NoReaches("this has not the form of a row's reaches")


def signs_many(reaches):
    return (len(reaches) + 1) // 2


# No pair comes twice: the two places tell the middle.
def alike_places(reaches):
    need_form(reaches)
    told = []
    for middle, length in enumerate(reaches):
        first = (middle + 1 - length) // 2
        told.extend([(place, middle - place) for place in range(first, (middle + 1) // 2)])
    return sorted(told)


def unlike_places(reaches):
    need_form(reaches)
    told = []
    for middle, length in enumerate(reaches):
        place = (middle + 1 - length) // 2 - 1
        later = middle - place
        if place >= 0 and later < signs_many(reaches):
            told.append((place, later))
    return sorted(told)


# Of each place the least one that has to be alike to it, itself where there is none.
def leaders_of(alike, many):
    leaders = list(range(many))
    for place, later in alike:
        lesser = min(leaders[place], leaders[later])
        greater = max(leaders[place], leaders[later])
        leaders = [lesser if leader == greater else leader for leader in leaders]
    return leaders


# Whatever letters stand ahead, there is one for each place behind: so taking the first one never has to be undone.
def row_for(reaches):
    leaders = leaders_of(alike_places(reaches), signs_many(reaches))
    unlike = [(leaders[place], leaders[later]) for place, later in unlike_places(reaches)]
    if any([leader == other for leader, other in unlike]):
        return None
    told = []
    for place, leader in enumerate(leaders):
        told.append(told[leader] if leader < place else first_letter(told, place, unlike))
    return "".join(told)


def first_letter(told, place, unlike):
    barred = [told[min(pair)] for pair in unlike if max(pair) == place]
    return [letter for letter in LETTERS if letter not in barred][0]
