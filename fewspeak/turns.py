"""Turns that lean on the same numbers, which stand on a circle from 0 to 999."""

from fewspeak.dice import Die, Told
from fewspeak.errors import NoTurn
from fewspeak.words import is_list_of, is_whole

CIRCLE = 1000
MOST_LISTED = 24


def is_number(thing):
    return is_whole(thing, 0, CIRCLE - 1)


def is_many(thing):
    return is_whole(thing, 0, CIRCLE)


def need(holds):
    if not holds:
        raise NoTurn()


class Turn:
    def __init__(self, start, many):
        need(is_number(start) and is_many(many))
        self.start = start
        self.many = many

    def has(self, number):
        need(is_number(number))
        return (number - self.start) % CIRCLE < self.many

    def members(self, numbers):
        need(is_list_of(numbers, MOST_LISTED, is_number))
        return [place for place, number in enumerate(numbers) if self.has(number)]

    def moved(self, by):
        return Turn((self.start + by) % CIRCLE, self.many)


def overlap(one, other):
    # Counted from the one's start the other may go once round the circle, and meet the one there again.
    first = (other.start - one.start) % CIRCLE
    end = first + other.many
    return max(0, min(one.many, end) - first) + max(0, min(one.many, end - CIRCLE))


def alongside(turn, many):
    return Turn(turn.start, many)


def away(turn, many):
    # From the turn's end on it goes through all other numbers before it comes to the turn's own.
    return Turn(turn.start, many).moved(turn.many)


def panel(many, by, count):
    # No turn is made where the count is 0, so that the many has to be looked at here.
    need(is_many(many) and is_number(by) and is_whole(count, 0, MOST_LISTED))
    return [Turn(0, many).moved(by * place) for place in range(count)]


def stays(turns, number):
    need(is_number(number))
    return [place for place, turn in enumerate(turns) if turn.has(number)]


def counts(turns):
    told = [0 for place in range(len(turns) + 1)]
    for many, places in stretches(turns):
        told[len(places)] += many
    return told


def picked(start, manys, numbers):
    need(is_number(start) and is_list_of(manys, MOST_LISTED, is_many) and is_list_of(numbers, MOST_LISTED, is_number))
    need(len(manys) == len(numbers))
    return [place for place, many in enumerate(manys) if Turn(start, many).has(numbers[place])]


def spun(turns):
    return Die([(many, told_make(places)) for many, places in stretches(turns)])


def told_make(places):
    return lambda: Told(places)


def stretches(turns):
    # Tuples (many, places) from the number 0 on: so many neighbouring numbers are in the turns at just these places.
    told = []
    for number in range(CIRCLE):
        places = stays(turns, number)
        if told and told[-1][1] == places:
            told[-1] = (told[-1][0] + 1, places)
        else:
            told.append((1, places))
    return told
