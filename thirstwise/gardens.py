"""Gardens: what makes one, its states and their numbers, and gardens made of gardens."""

from thirstwise.checks import is_whole
from thirstwise.errors import BadPot, NoPot, NoState, TooMany
from thirstwise.pots import Pot

MOST_POTS = 8
MOST_CANS = 8
MOST_WEEK = 14
MOST_STATES = 20000


def own_pots(pots):
    if not isinstance(pots, list):
        raise BadPot("a garden is made of a list of pots")
    for pot in pots:
        if not isinstance(pot, Pot):
            raise BadPot("a garden's list holds pots alone")
    # Made anew, so that what the asker does to a pot later does not reach the garden.
    return [pot.with_gap(pot.gap) for pot in pots]


def refuse_bad_counts(pots, cans, week, closed):
    if not 1 <= len(pots) <= MOST_POTS:
        raise TooMany("a garden has 1 to 8 pots")
    if not is_whole(cans, 0, MOST_CANS):
        raise TooMany("cans are a whole number from 0 to 8")
    if not is_whole(week, 1, MOST_WEEK):
        raise TooMany("a week is a whole number of days from 1 to 14")
    if not is_whole(closed, 0, (1 << week) - 1):
        raise TooMany("closed days are a whole number with no bit from the week on")


def refuse_name_twice(pots):
    if len(set([pot.name for pot in pots])) != len(pots):
        raise BadPot("no two pots bear the same name")


def is_state(garden, value):
    if not isinstance(value, tuple) or len(value) != 2:
        return False
    day = value[0]
    since = value[1]
    if not is_whole(day, 0, garden.week - 1):
        return False
    if not isinstance(since, tuple) or len(since) != len(garden.pots):
        return False
    return all([is_whole(days, 0, pot.gap - 1) for days, pot in zip(since, garden.pots)])


def refuse_no_state(garden, value):
    if not is_state(garden, value):
        raise NoState("this is no state of the garden")


class Garden:

    def __init__(self, pots, cans=1, week=1, closed=0):
        copies = own_pots(pots)
        refuse_bad_counts(copies, cans, week, closed)
        refuse_name_twice(copies)
        self.pots = copies
        self.cans = cans
        self.week = week
        self.closed = closed
        if self.size() > MOST_STATES:
            raise TooMany("a garden has at most 20000 states")

    def size(self):
        states = self.week
        for pot in self.pots:
            states = states * pot.gap
        return states

    def number(self, state):
        refuse_no_state(self, state)
        count = state[0]
        for days, pot in zip(state[1], self.pots):
            count = count * pot.gap + days
        return count

    def state(self, number):
        if not is_whole(number, 0, self.size() - 1):
            raise NoState("this is no number of a state of the garden")
        left = number
        since = []
        for pot in reversed(self.pots):
            since.append(left % pot.gap)
            left = left // pot.gap
        return (left, tuple(reversed(since)))

    def fresh(self):
        return (0, tuple([0 for pot in self.pots]))


def with_cans(garden, cans):
    return Garden(garden.pots, cans, garden.week, garden.closed)


def place_of(garden, name):
    names = [pot.name for pot in garden.pots]
    if name not in names:
        raise NoPot("no pot of the garden bears this name")
    return names.index(name)


def with_gap(garden, name, gap):
    place = place_of(garden, name)
    pots = list(garden.pots)
    pots[place] = pots[place].with_gap(gap)
    return Garden(pots, garden.cans, garden.week, garden.closed)


def joined(one, other):
    return Garden(one.pots + other.pots, one.cans + other.cans, one.week, one.closed)
