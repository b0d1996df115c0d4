"""How long it goes on from a state, and what is best done for it."""

from thirstwise.checks import is_set
from thirstwise.choices import choices
from thirstwise.gardens import refuse_no_state, with_cans


def roads(garden):
    # By the states' numbers: from which states one choice leads to each, and how many choices each has.
    states = [garden.state(number) for number in range(garden.size())]
    numbers = dict([(state, number) for number, state in enumerate(states)])
    ahead = [[] for state in states]
    counts = []
    for number, state in enumerate(states):
        found = choices(garden, state)
        counts.append(len(found))
        for choice, behind in found:
            ahead[numbers[behind]].append(number)
    return (ahead, counts)


def table(garden):
    found = roads(garden)
    ahead = found[0]
    left = found[1]
    answer = [None for count in left]
    ending = [number for number, count in enumerate(left) if count == 0]
    days = 0
    # A state's days are known when those behind its last choice are, and the last ones known are the most.
    # What is never known goes on for ever: there is always a choice left over that leads to such a state.
    while ending:
        earlier = []
        for number in ending:
            answer[number] = days
            for other in ahead[number]:
                left[other] -= 1
                if left[other] == 0:
                    earlier.append(other)
        ending = earlier
        days += 1
    return answer


class Lives:

    def __init__(self, garden):
        # A garden of its own, so that what the asker does to the other one later does not reach it.
        self.garden = with_cans(garden, garden.cans)
        self.counts = table(garden)

    def days(self, state):
        return self.counts[self.garden.number(state)]

    def rank(self, state):
        days = self.days(state)
        # Days that end are below the count of states, since no state comes twice in them.
        return self.garden.size() if days is None else days

    def best(self, state):
        # Of several alike max takes the first, and choices rise: so the least number.
        return max(choices(self.garden, state), key=lambda pair: self.rank(pair[1]), default=None)


def told_or_fresh(garden, state):
    if state is None:
        return garden.fresh()
    # Ahead of the table, which is long to make.
    refuse_no_state(garden, state)
    return state


def days_of(garden, state=None):
    here = told_or_fresh(garden, state)
    return table(garden)[garden.number(here)]


def names_in(garden, choice):
    return [pot.name for place, pot in enumerate(garden.pots) if is_set(choice, place)]


def rounds_of(garden, state=None):
    here = told_or_fresh(garden, state)
    lives = Lives(garden)
    days = []
    seen = {}
    found = lives.best(here)
    while found is not None and here not in seen:
        seen[here] = len(days)
        days.append(names_in(garden, found[0]))
        here = found[1]
        found = lives.best(here)
    if found is None:
        return (days, None)
    first = seen[here]
    return (days[:first], days[first:])
