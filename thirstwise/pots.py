"""Pots and cacti: what makes one, and when it may be watered."""

from thirstwise.checks import is_whole
from thirstwise.errors import BadPot

LONGEST_NAME = 12
MOST_GAP = 60


def is_name(value):
    if not isinstance(value, str) or not 1 <= len(value) <= LONGEST_NAME:
        return False
    # islower would also let in letters beyond a to z.
    return all(["a" <= sign <= "z" for sign in value])


class Pot:

    def __init__(self, name, gap):
        if not is_name(name):
            raise BadPot("a name has 1 to 12 small letters")
        if not is_whole(gap, 1, MOST_GAP):
            raise BadPot("a gap is a whole number from 1 to 60")
        self.name = name
        self.gap = gap

    def may(self, since):
        return True

    def words(self):
        return ["pot", self.name, str(self.gap)]

    def with_gap(self, gap):
        return Pot(self.name, gap)

    def shortest(self):
        # The least gap that the pot can have, all else as it is.
        return 1


class Cactus(Pot):

    def __init__(self, name, gap, rest):
        Pot.__init__(self, name, gap)
        if not is_whole(rest, 0, gap - 1):
            raise BadPot("a rest is a whole number from 0 to the gap less 1")
        self.rest = rest

    def may(self, since):
        return since >= self.rest

    def words(self):
        return ["cactus", self.name, str(self.gap), str(self.rest)]

    def with_gap(self, gap):
        return Cactus(self.name, gap, self.rest)

    def shortest(self):
        return self.rest + 1
