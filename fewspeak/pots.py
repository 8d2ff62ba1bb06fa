"""Pots that keep a few things of a stream, and are poured together."""

from fewspeak.dice import Die, Told
from fewspeak.errors import NoThing, NoThrow, TooMany
from fewspeak.words import is_name, is_whole

MOST_KEPT = 24
MOST_STREAMED = 24
MOST_COME = 300


class Pot:
    def __init__(self, most):
        if not is_whole(most, 1, MOST_KEPT):
            raise NoThing()
        self.most = most
        self.seen = 0
        self.held = []

    def come(self, thing, throw=0):
        if not is_name(thing):
            raise NoThing()
        if self.seen >= MOST_COME:
            raise TooMany()
        if not is_whole(throw, 0, self.next_sides() - 1):
            raise NoThrow(0)
        self.held = held_with(self.held, self.most, thing, throw)
        self.seen += 1

    def next_sides(self):
        return 1 if self.seen < self.most else self.seen + 1

    def came(self):
        return self.seen

    def things(self):
        return list(self.held)


def held_with(held, most, thing, throw):
    if len(held) < most:
        return held + [thing]
    if throw < most:
        return held[:throw] + [thing] + held[throw + 1:]
    return held


def streamed(many, most):
    if not is_whole(many, 0, MOST_STREAMED) or not is_whole(most, 1, MOST_KEPT):
        raise NoThing()
    return stream_node(list(range(min(many, most))), most, many)


def stream_node(held, number, many):
    # As many places are held as the pot has, as soon as there is a die.
    if number >= many:
        return Told(held)
    most = len(held)
    parts = [(1, stream_make(held_with(held, most, number, place), number, many)) for place in range(most)]
    return Die(parts + [(number + 1 - most, stream_make(held, number, many))])


def stream_make(held, number, many):
    return lambda: stream_node(held, number + 1, many)


def need_alike(one, other):
    if one.most != other.most:
        raise NoThing()


def poured(one, other):
    need_alike(one, other)
    # What comes into the pots later on is not to change the node, so it holds only what is there now.
    firsts = list(range(len(one.things())))
    seconds = [len(firsts) + place for place in range(len(other.things()))]
    wanted = min(one.most, one.came() + other.came())
    return pour_node(wanted, (one.came(), firsts), (other.came(), seconds), [])


def pour_node(wanted, one, other, taken):
    # The one and the other are tuples: how many that came are not taken yet, and the places that are not.
    if wanted == 0:
        return Told(taken)
    if other[0] == 0:
        return from_one(wanted, one, other, taken)
    if one[0] == 0:
        return from_other(wanted, one, other, taken)
    return Die([
        (one[0], lambda: from_one(wanted, one, other, taken)),
        (other[0], lambda: from_other(wanted, one, other, taken)),
    ])


def from_one(wanted, one, other, taken):
    return any_of(one[1], lambda place: pour_node(wanted - 1, without(one, place), other, taken + [place]))


def from_other(wanted, one, other, taken):
    return any_of(other[1], lambda place: pour_node(wanted - 1, one, without(other, place), taken + [place]))


def without(pot, place):
    return (pot[0] - 1, [left for left in pot[1] if left != place])


def any_of(places, go):
    if len(places) == 1:
        return go(places[0])
    return Die([(1, going(go, place)) for place in places])


def going(go, place):
    return lambda: go(place)


def into(one, other, kept):
    need_alike(one, other)
    if one.came() + other.came() > MOST_COME:
        raise TooMany()
    things = one.things() + other.things()
    pot = Pot(one.most)
    pot.seen = one.came() + other.came()
    pot.held = [things[place] for place in kept]
    return pot
