"""Plans: rows of names, a row a day, followed till a pot is dry or to their end or for ever."""

from thirstwise.choices import cans_on, day_behind
from thirstwise.errors import BadDay
from thirstwise.gardens import place_of, refuse_no_state


def refuse_bad_day(garden, state, places, day):
    if len(set(places)) != len(places):
        raise BadDay(day)
    if len(places) > cans_on(garden, state[0]):
        raise BadDay(day)
    if not all([garden.pots[place].may(state[1][place]) for place in places]):
        raise BadDay(day)


def since_behind(state, places):
    return tuple([0 if place in places else days + 1 for place, days in enumerate(state[1])])


def dry_names(garden, since):
    return [pot.name for pot, days in zip(garden.pots, since) if days == pot.gap]


def followed(garden, rows, state, first=0):
    refuse_no_state(garden, state)
    here = state
    for day, names in enumerate(rows, start=first):
        # All names ahead of all else: NoPot comes before BadDay.
        places = [place_of(garden, name) for name in names]
        refuse_bad_day(garden, here, places, day)
        since = since_behind(here, places)
        dry = dry_names(garden, since)
        if dry:
            return (False, day, dry[0])
        here = (day_behind(garden, here[0]), since)
    return (True, here)


def kept(garden, rows):
    return followed(garden, rows, garden.fresh())


def kept_for_ever(garden, lead, rows):
    answer = kept(garden, lead)
    # Only now, since the lead is looked at first.
    if len(rows) == 0:
        raise BadDay(len(lead))
    first = len(lead)
    seen = {}
    while answer[0] and answer[1] not in seen:
        seen[answer[1]] = len(seen)
        answer = followed(garden, rows, answer[1], first)
        first += len(rows)
    if not answer[0]:
        return answer
    return (True, len(seen) - seen[answer[1]])


def sheet(rows, width=0):
    return [" ".join([str(day).rjust(width)] + list(names)) for day, names in enumerate(rows, start=1)]
