"""What a garden wants at the least: cans, a pot's gap, waterings."""

from thirstwise.choices import cans_on
from thirstwise.gardens import place_of, with_cans, with_gap
from thirstwise.lives import days_of


def least_for_ever(least, most, garden_with):
    # What is done for ever with one number can be done with each above it, as more cans or a longer gap
    # take no choice away; so halving finds the least.
    if days_of(garden_with(most)) is not None:
        return None
    low = least
    high = most
    while low < high:
        middle = (low + high) // 2
        if days_of(garden_with(middle)) is None:
            high = middle
        else:
            low = middle + 1
    return high


def fewest_cans(garden):
    return least_for_ever(0, len(garden.pots), lambda cans: with_cans(garden, cans))


def least_gap(garden, name):
    pot = garden.pots[place_of(garden, name)]
    return least_for_ever(pot.shortest(), pot.gap, lambda gap: with_gap(garden, name, gap))


def common_divisor(one, other):
    larger = one
    smaller = other
    while smaller > 0:
        rest = larger % smaller
        larger = smaller
        smaller = rest
    return larger


def load(garden):
    days = garden.week
    for pot in garden.pots:
        days = days * pot.gap // common_divisor(days, pot.gap)
    needed = sum([days // pot.gap for pot in garden.pots])
    in_a_week = sum([cans_on(garden, day) for day in range(garden.week)])
    return (needed, in_a_week * (days // garden.week), days)
