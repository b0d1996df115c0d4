"""A day's choices: which pots may be watered, and what state lies behind."""

from thirstwise.checks import is_set
from thirstwise.gardens import refuse_no_state


def cans_on(garden, day):
    # A closed day allows what a day without cans allows: the choice 0 alone.
    return 0 if is_set(garden.closed, day) else garden.cans


def day_behind(garden, day):
    return (day + 1) % garden.week


def without_water(parts, pot, since):
    if since + 1 == pot.gap:
        return []
    return [(choice, cans, behind + (since + 1,)) for choice, cans, behind in parts]


def with_water(parts, pot, since, bit):
    if not pot.may(since):
        return []
    return [(choice + bit, cans - 1, behind + (0,)) for choice, cans, behind in parts if cans > 0]


def choices(garden, state):
    refuse_no_state(garden, state)
    day = state[0]
    # A part is a choice for the pots so far, the cans left over, and their days behind it.
    parts = [(0, cans_on(garden, day), ())]
    bit = 1
    for since, pot in zip(state[1], garden.pots):
        # The watered ones come last: their bit is above all others, so the choices stay rising.
        parts = without_water(parts, pot, since) + with_water(parts, pot, since, bit)
        bit = bit * 2
    tomorrow = day_behind(garden, day)
    return [(choice, (tomorrow, behind)) for choice, cans, behind in parts]
