"""Plans that tell how some of a crowd are drawn: few, start and loose."""

from fewspeak.dice import Die, Told
from fewspeak.errors import NoPlan
from fewspeak.fractions import share, times
from fewspeak.words import is_whole

MOST_MANY = 24
MOST_STEP = 100
NOUGHT = (0, 1)
WHOLE = (1, 1)


def wished(sizes, many):
    if len(sizes) <= many:
        return [WHOLE for size in sizes]
    if many == 0:
        return [NOUGHT for size in sizes]
    return wished_of_some(sizes, many)


def wished_of_some(sizes, many):
    # Those put aside are always fewer than are wanted, as more are left than wanted; so some are left at the end.
    left = list(range(len(sizes)))
    wanted = many
    while True:
        whole = sum([sizes[place] for place in left])
        staying = [place for place in left if sizes[place] * wanted < whole]
        if len(staying) == len(left):
            break
        wanted -= len(left) - len(staying)
        left = staying
    return [share(size * wanted, whole) if place in left else WHOLE for place, size in enumerate(sizes)]


def wished_by(crowd, many):
    return wished([member[1] for member in crowd], many)


def places_of(crowd):
    return [member[0] for member in crowd]


def matrix_by(many, tell):
    return [matrix_row(one, many, tell) for one in range(many)]


def matrix_row(one, many, tell):
    return [tell(one, other) for other in range(many)]


def need_number(thing, low, high):
    if not is_whole(thing, low, high):
        raise NoPlan(0)


class Plan:
    def need_levels(self, levels):
        # Most kinds of plans never look at a path, so that any number of names will do.
        pass


class Few(Plan):
    def __init__(self, many):
        need_number(many, 0, MOST_MANY)
        self.many = many

    def node(self, crowd):
        return few_node(places_of(crowd), self.many, [])

    def matrix(self, crowd):
        there = len(crowd)
        wanted = min(self.many, there)
        return matrix_by(there, lambda one, other: few_chance(there, wanted, one == other))

    def bounds(self, crowd):
        wanted = min(self.many, len(crowd))
        return (wanted, wanted)

    def text(self):
        many = self.many
        return f"few {many}"


def few_node(ahead, wanted, taken):
    if wanted == 0:
        return Told(taken)
    if wanted >= len(ahead):
        return Told(taken + ahead)
    rest = ahead[1:]
    return Die([
        (wanted, lambda: few_node(rest, wanted - 1, taken + ahead[:1])),
        (len(ahead) - wanted, lambda: few_node(rest, wanted, taken)),
    ])


def few_chance(there, wanted, is_same):
    if is_same:
        return share(wanted, there)
    return share(wanted * (wanted - 1), there * (there - 1))


class Start(Plan):
    def __init__(self, step):
        need_number(step, 1, MOST_STEP)
        self.step = step

    def node(self, crowd):
        places = places_of(crowd)
        step = self.step
        if step == 1 or not places:
            return Told(places)
        return Die([(1, start_make(places, step, first)) for first in range(step)])

    def matrix(self, crowd):
        step = self.step
        return matrix_by(len(crowd), lambda one, other: share(1, step) if (one - other) % step == 0 else NOUGHT)

    def bounds(self, crowd):
        # The last start has the fewest behind it, the first one the most.
        return (len(crowd) // self.step, (len(crowd) + self.step - 1) // self.step)

    def text(self):
        step = self.step
        return f"start {step}"


def start_make(places, step, first):
    return lambda: Told(places[first::step])


class Loose(Plan):
    def __init__(self, many):
        need_number(many, 0, MOST_MANY)
        self.many = many

    def node(self, crowd):
        told = list(zip(places_of(crowd), wished_by(crowd, self.many)))
        sure = [place for place, chance in told if chance == WHOLE]
        return loose_node([(place, chance) for place, chance in told if is_unsure(chance)], sure)

    def matrix(self, crowd):
        told = wished_by(crowd, self.many)
        return matrix_by(len(told), lambda one, other: told[one] if one == other else times(told[one], told[other]))

    def bounds(self, crowd):
        told = wished_by(crowd, self.many)
        return (told.count(WHOLE), len(told) - told.count(NOUGHT))

    def text(self):
        many = self.many
        return f"loose {many}"


def is_unsure(chance):
    return 0 < chance[0] < chance[1]


def loose_node(ahead, taken):
    if not ahead:
        return Told(taken)
    place, chance = ahead[0]
    rest = ahead[1:]
    return Die([
        (chance[0], lambda: loose_node(rest, taken + [place])),
        (chance[1] - chance[0], lambda: loose_node(rest, taken)),
    ])
