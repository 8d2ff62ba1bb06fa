"""Dice that are thrown one after the other, and what is told behind their throws."""

from fewspeak.errors import NoThrow, TooMany
from fewspeak.fractions import least_multiple, share, total
from fewspeak.words import is_whole

MOST_WAYS = 4096


class Node:
    pass


class Told(Node):
    def __init__(self, kept):
        self.rising = tuple(sorted(kept))

    def is_told(self):
        return True

    def kept(self):
        return self.rising

    def sides(self):
        return 0

    def parts(self):
        return []

    def after(self, throw):
        raise NoThrow(0)


class Die(Node):
    def __init__(self, parts):
        self.makes = list(parts)

    def is_told(self):
        return False

    def kept(self):
        return None

    def sides(self):
        return sum([many for many, make in self.makes])

    def parts(self):
        return [(many, make()) for many, make in self.makes]

    def after(self, throw):
        if not can_be_thrown(self, throw):
            raise NoThrow(0)
        number = 0
        last = self.makes[0][0] - 1
        while last < throw:
            number += 1
            last += self.makes[number][0]
        many, make = self.makes[number]
        return make()

    def carried(self, carry):
        # The same die, but that each part leads to what carry makes of its node, when it is asked for.
        return Die([(many, carried_make(make, carry)) for many, make in self.makes])


def carried_make(make, carry):
    return lambda: carry(make())


def can_be_thrown(node, throw):
    # A told node has no sides, so that nothing can be thrown at it.
    return is_whole(throw, 0, node.sides() - 1)


def drawn(node, throws):
    here = node
    for place, throw in enumerate(throws):
        if not can_be_thrown(here, throw):
            raise NoThrow(place)
        here = here.after(throw)
    if not here.is_told():
        raise NoThrow(len(throws))
    return here.kept()


def behind(node, go):
    if node.is_told():
        return go(node.kept())
    return node.carried(lambda after: behind(after, go))


def both(one, other):
    return behind(one, lambda kept: joined(kept, other))


def joined(kept, node):
    return behind(node, lambda more: Told(kept + more))


def ways_of(node):
    ways = []
    ahead = [(node, 1, 1)]
    while ahead:
        here, top, bottom = ahead.pop()
        if here.is_told():
            ways.append((here.kept(), (top, bottom)))
        else:
            sides = here.sides()
            ahead.extend([(after, top * many, bottom * sides) for many, after in here.parts()])
        # Each node ahead leads to one way at least, so there is no need to walk them all.
        if len(ways) + len(ahead) > MOST_WAYS:
            raise TooMany()
    return ways


def table(node):
    found = {}
    for kept, chance in ways_of(node):
        found.setdefault(kept, []).append(chance)
    return [(kept, total(found[kept])) for kept in sorted(found)]


def matrix_of(node, places):
    rows = table(node)
    # Over one bottom the shares are added as whole numbers, which is far quicker.
    bottom = least_multiple([chance[1] for kept, chance in rows])
    tops = {}
    for kept, chance in rows:
        top = chance[0] * (bottom // chance[1])
        asked = [place for place in kept if place in places]
        for one in asked:
            for other in asked:
                tops[(one, other)] = tops.get((one, other), 0) + top
    return [matrix_row(one, places, tops, bottom) for one in places]


def matrix_row(one, places, tops, bottom):
    return [share(tops.get((one, other), 0), bottom) for other in places]
