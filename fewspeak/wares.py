"""Wares looked through by a table of looks until enough is known of their lot."""

from fewspeak.errors import NoLot, NoTable
from fewspeak.fractions import share
from fewspeak.words import is_list_of, is_whole

MOST_ROWS = 24
MOST_WARES = 24
MOST_LET = 24
MOST_TURN = 25


def is_row(thing):
    return (
        isinstance(thing, tuple)
        and len(thing) == 2
        and is_whole(thing[0], -1, MOST_LET)
        and is_whole(thing[1], thing[0] + 1, MOST_TURN)
    )


def need_table(rows):
    if not isinstance(rows, list) or not rows:
        raise NoTable(0)
    if len(rows) > MOST_ROWS:
        raise NoTable(MOST_ROWS)
    for number, row in enumerate(rows):
        if not is_row(row):
            raise NoTable(number)
    if rows[-1][1] != rows[-1][0] + 1:
        raise NoTable(len(rows) - 1)


def is_ware(thing):
    return is_whole(thing, 0, 1)


def word_of(row, found):
    let, turn = row
    if found <= let:
        return "by"
    if found >= turn:
        return "down"
    return "open"


def choices(many, some):
    # How many sets of some places there are among many; none, where there are not so many.
    if some < 0 or some > many:
        return 0
    told = 1
    for number in range(some):
        told = told * (many - number) // (number + 1)
    return told


def one_more(ways):
    # For each number of bad ones found, from 0 on, in how many ways it came to it; the next ware is good or bad.
    return [good + bad for good, bad in zip(ways + [0], [0] + ways)]


class Looks:
    def __init__(self, rows):
        need_table(rows)
        self.rows = tuple(rows)

    def judged(self, wares):
        if not is_list_of(wares, MOST_WARES, is_ware):
            raise NoLot()
        found = 0
        # The last row always tells an end, so that there is a row for each ware that is looked at.
        for number, ware in enumerate(wares):
            found += ware
            word = word_of(self.rows[number], found)
            if word != "open":
                return (word, number + 1)
        return ("open", len(wares))

    def endings(self, lot, bad):
        if not is_whole(lot, len(self.rows), MOST_WARES) or not is_whole(bad, 0, lot):
            raise NoLot()
        told = []
        ways = [1]
        for number, row in enumerate(self.rows):
            ways = one_more(ways)
            told.extend(endings_at(row, ways, lot - number - 1, bad, number + 1))
            ways = [many if word_of(row, found) == "open" else 0 for found, many in enumerate(ways)]
        return told

    def let_by(self, lot, bad):
        by = [many for looked, found, word, many in self.endings(lot, bad) if word == "by"]
        return share(sum(by), choices(lot, bad))

    def looked_at(self, lot, bad):
        looks = [looked * many for looked, found, word, many in self.endings(lot, bad)]
        return share(sum(looks), choices(lot, bad))


def endings_at(row, ways, left, bad, looked):
    # The bad ones not found yet may stand at any of the places left.
    sets = [many * choices(left, bad - found) for found, many in enumerate(ways)]
    told = [(looked, found, word_of(row, found), many) for found, many in enumerate(sets) if many > 0]
    return [ending for ending in told if ending[2] != "open"]
