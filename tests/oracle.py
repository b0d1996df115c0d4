"""Answers straight by the document's words, slow and plain, and the gardens that they are held against."""

from thirstwise.gardens import Garden
from thirstwise.pots import Cactus, Pot

NO_STATES = (0, True, False, "ab", (), (0,), [0, (0, 0)], (0, [0, 0]), (0, 0), (2, (0, 0)), (-1, (0, 0)),
             (True, (0, 0)), (0, (0,)), (0, (0, 0, 0)), (0, (3, 0)), (0, (0, 2)), (0, (-1, 0)), (0, (0, False)),
             (0, (0, 0), 0), (0, (0, None)), (0.0, (0, 0)), {}, [])
NO_NAMES = ("", "fer", "ferns", "Fern", "fern ", None, 0, True, ["fern"], ("fern",), {}, b"fern", ["fern", "fern"])


def garden_without_such_states():
    return Garden([Pot("fern", 3), Cactus("agave", 2, 1)], 1, 2)


def told(garden):
    return ([pot.words() for pot in garden.pots], garden.cans, garden.week, garden.closed)


def watered_in(garden, choice):
    return [choice // 2 ** k % 2 == 1 for k in range(len(garden.pots))]


def names_of(garden, choice):
    return [pot.name for pot, water in zip(garden.pots, watered_in(garden, choice)) if water]


def is_allowed(garden, state, choice):
    day, sinces = state
    watered = watered_in(garden, choice)
    if choice != 0 and garden.closed // 2 ** day % 2 == 1:
        return False
    if sum(watered) > garden.cans:
        return False
    rests = [pot.rest if isinstance(pot, Cactus) else 0 for pot in garden.pots]
    return not any(water and since < rest for water, since, rest in zip(watered, sinces, rests))


def sinces_behind(garden, state, choice):
    return tuple(0 if water else since + 1 for water, since in zip(watered_in(garden, choice), state[1]))


def dry_behind(garden, state, choice):
    sinces = sinces_behind(garden, state, choice)
    return [pot.name for since, pot in zip(sinces, garden.pots) if since == pot.gap]


def state_behind(garden, state, choice):
    return (0 if state[0] + 1 == garden.week else state[0] + 1, sinces_behind(garden, state, choice))


def expected_choices(garden, state):
    # Every number is tried.
    return [(choice, state_behind(garden, state, choice)) for choice in range(2 ** len(garden.pots))
            if is_allowed(garden, state, choice) and not dry_behind(garden, state, choice)]


def states_of(garden):
    return [garden.state(number) for number in range(garden.size())]


def expected_days(garden):
    # By state: from how many a day more can be lived, again and again, till these are none or stay the same.
    behind = {state: [pair[1] for pair in expected_choices(garden, state)] for state in states_of(garden)}
    days = {state: 0 for state in behind}
    alive = set(behind)
    count = 0
    while True:
        count += 1
        still = {state for state in alive if any(other in alive for other in behind[state])}
        if still == alive:
            return {state: None if state in alive else days[state] for state in behind}
        for state in still:
            days[state] = count
        alive = still


def expected_best(garden, days, state):
    found = expected_choices(garden, state)
    for_ever = [pair for pair in found if days[pair[1]] is None]
    if for_ever:
        return min(for_ever)
    if not found:
        return None
    most = max(days[behind] for choice, behind in found)
    return min(pair for pair in found if days[pair[1]] == most)


def small_gardens():
    fern, moss, basil = Pot("fern", 3), Pot("moss", 2), Pot("basil", 1)
    agave, cereus, opuntia = Cactus("agave", 4, 2), Cactus("cereus", 2, 1), Cactus("opuntia", 3, 0)
    beds = ([fern], [basil], [agave], [cereus], [fern, moss], [moss, agave], [agave, cereus], [basil, fern],
            [opuntia, Cactus("agave", 3, 2)], [fern, moss, Pot("sage", 4)], [agave, moss, fern],
            [Cactus("agave", 5, 3), cereus, opuntia], [moss, basil, cereus])
    weeks = ((1, 0), (1, 1), (2, 1), (3, 0), (3, 2), (3, 5), (4, 8), (4, 12))
    return [Garden(pots, cans, week, closed) for pots in beds for cans in (0, 1, 2, 3, 8) for week, closed in weeks]
