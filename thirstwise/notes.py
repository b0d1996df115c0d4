"""A garden's text, written and read."""

from thirstwise.checks import is_set
from thirstwise.errors import BadPot, BadRow, TooMany
from thirstwise.gardens import Garden
from thirstwise.pots import Cactus, Pot


def written(garden):
    closed = [day for day in range(garden.week) if is_set(garden.closed, day)]
    head = ["garden"] + [str(number) for number in [garden.cans, garden.week] + closed]
    rows = [head] + [pot.words() for pot in garden.pots]
    return "\n".join([" ".join(words) for words in rows])


def number_in(word, row):
    # isdigit would also let in figures beyond 0 to 9.
    if len(word) > 2 or not all(["0" <= sign <= "9" for sign in word]):
        raise BadRow(row)
    if len(word) == 2 and word[0] == "0":
        raise BadRow(row)
    return int(word)


def head_in(words, row):
    numbers = [number_in(word, row) for word in words[1:]]
    if words[0] != "garden" or len(numbers) < 2:
        raise BadRow(row)
    week = numbers[1]
    closed = numbers[2:]
    if closed != sorted(set(closed)) or not all([day < week for day in closed]):
        raise BadRow(row)
    return (numbers[0], week, sum([1 << day for day in closed]))


def pot_in(words, row):
    numbers = [number_in(word, row) for word in words[2:]]
    try:
        if words[0] == "pot" and len(words) == 3:
            return Pot(words[1], numbers[0])
        if words[0] == "cactus" and len(words) == 4:
            return Cactus(words[1], numbers[0], numbers[1])
    except BadPot as e:
        raise BadRow(row) from e
    raise BadRow(row)


def words_in(line):
    # Parted by blanks alone: a tab is a sign of a word.
    return [word for word in line.split(" ") if word != ""]


def numbered_rows(lines):
    # Numbered first, as rows that are passed over count too.
    rows = [(row, words_in(line)) for row, line in enumerate(lines, start=1)]
    return [(row, words) for row, words in rows if words and not words[0].startswith("#")]


def pots_in(rows):
    pots = []
    names = {}
    for row, words in rows:
        pot = pot_in(words, row)
        if pot.name in names:
            raise BadRow(row)
        names[pot.name] = True
        pots.append(pot)
    return pots


def read(text):
    lines = text.split("\n")
    rows = numbered_rows(lines)
    beyond = len(lines) + 1
    if not rows:
        raise BadRow(beyond)
    head = head_in(rows[0][1], rows[0][0])
    pots = pots_in(rows[1:])
    try:
        return Garden(pots, head[0], head[1], head[2])
    except TooMany as e:
        raise BadRow(beyond) from e
