"""The greatest of the things that came last, told by as few candidates as can be."""

from fewspeak.errors import NoThing
from fewspeak.words import is_name, is_whole

MOST_WIDE = 100
MOST_TOLD = 24
MOST_NUMBER = 1000000000


class Last:
    def __init__(self, wide, most):
        if not is_whole(wide, 1, MOST_WIDE) or not is_whole(most, 1, MOST_TOLD):
            raise NoThing()
        self.wide = wide
        self.most = most
        self.seen = 0
        # Tuples (turn, thing, number, beaten): beaten tells how many came later and are greater.
        self.held = []

    def come(self, thing, number):
        if not is_name(thing) or not is_whole(number, 0, MOST_NUMBER):
            raise NoThing()
        older = [beaten_by(number, candidate) for candidate in self.held]
        first = self.seen + 1 - self.wide
        staying = [candidate for candidate in older if candidate[0] >= first and candidate[3] < self.most]
        self.held = staying + [(self.seen, thing, number, 0)]
        self.seen += 1

    def came(self):
        return self.seen

    def sample(self):
        # Whoever is among the greatest has too few greater ones behind it to be no candidate.
        greatest = sorted(self.held, key=lambda candidate: (-candidate[2], candidate[0]))[:self.most]
        return [(thing, number) for turn, thing, number, beaten in sorted(greatest)]

    def candidates(self):
        return [(thing, number) for turn, thing, number, beaten in self.held]


def beaten_by(number, candidate):
    # Of things with the same number the earlier one is the greater one.
    turn, thing, own, beaten = candidate
    return (turn, thing, own, beaten + 1 if number > own else beaten)
