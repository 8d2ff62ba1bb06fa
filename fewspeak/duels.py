"""Duels, in which two after two play by their shares until each share is 0 or 1, and the plan of them."""

from fewspeak.dice import Die, Told
from fewspeak.fractions import below, least_multiple, minus, over, plus, share, times
from fewspeak.plans import MOST_MANY, NOUGHT, WHOLE, Plan, is_unsure, matrix_by, need_number, places_of, wished_by

TWICE = (2, 1)


def duels(shares, order):
    return settled([(place, shares[place]) for place in order], [])


def settled(told, taken):
    # Who has the share 1 or 0 plays no more; so the one that is up stands ahead of those that come.
    sure = [place for place, chance in told if chance == WHOLE]
    return open_node([(place, chance) for place, chance in told if is_unsure(chance)], taken + sure)


def open_node(told, taken):
    if not told:
        return Told(taken)
    if len(told) == 1:
        return last_die(told[0], taken)
    place, chance = told[0]
    other, its_chance = told[1]
    return Die([
        (many, settled_make([(place, left), (other, its_left)] + told[2:], taken))
        for many, left, its_left in duel_parts(chance, its_chance)
    ])


def settled_make(told, taken):
    return lambda: settled(told, taken)


def last_die(last, taken):
    place, chance = last
    return Die([
        (chance[0], lambda: Told(taken + [place])),
        (chance[1] - chance[0], lambda: Told(taken)),
    ])


def duel_parts(one, other):
    # Of each part: its sides, and the shares that it leaves to the one and to the other.
    bottom = least_multiple([one[1], other[1]])
    top = one[0] * (bottom // one[1])
    its_top = other[0] * (bottom // other[1])
    if top + its_top < bottom:
        left = share(top + its_top, bottom)
        return [(top, left, NOUGHT), (its_top, NOUGHT, left)]
    left = share(top + its_top - bottom, bottom)
    return [(bottom - its_top, WHOLE, left), (bottom - top, left, WHOLE)]


def duel_matrix(shares, order):
    told = list(shares)
    found = kept_together([(place, told[place]) for place in order if is_unsure(told[place])])
    return matrix_by(len(told), lambda one, other: pair_chance(told, found, one, other))


def pair_chance(told, found, one, other):
    if one == other:
        return told[one]
    # Where one of the two never plays, what becomes of it hangs on nothing.
    return found.get((one, other), times(told[one], told[other]))


def kept_together(told):
    found = {}
    earlier = []
    held = NOUGHT
    for place, chance in told:
        for one, up, sure in earlier:
            found[(one, place)] = both_kept(up, sure, held, chance)
            found[(place, one)] = found[(one, place)]
        earlier = behind_duel(earlier, held, place, chance)
        held = held_behind(held, chance)
    return found


def both_kept(up, sure, held, chance):
    spare = minus(plus(held, chance), WHOLE)
    when_sure = times(sure, chance)
    return plus(when_sure, times(up, spare)) if below(NOUGHT, spare) else when_sure


def held_behind(held, chance):
    # What the one that is up has, whoever it is; nought, where none is up.
    reached = plus(held, chance)
    return reached if below(reached, WHOLE) else minus(reached, WHOLE)


def behind_duel(earlier, held, place, chance):
    # Tuples (place, up, sure): the shares of throws in which it is up, and in which it has the share 1.
    # Where nought is held none is up; it is then reckoned as a duel that whoever comes next wins for sure.
    reached = plus(held, chance)
    if below(reached, WHOLE):
        stays = over(held, reached)
        lasting = [(one, times(up, stays), sure) for one, up, sure in earlier]
        return lasting + [(place, over(chance, reached), NOUGHT)]
    lacking = minus(TWICE, reached)
    ahead = over(minus(WHOLE, chance), lacking)
    back = over(minus(WHOLE, held), lacking)
    lasting = [(one, times(up, back), plus(sure, times(up, ahead))) for one, up, sure in earlier]
    return lasting + [(place, ahead, back)]


class Duel(Plan):
    def __init__(self, many):
        need_number(many, 0, MOST_MANY)
        self.many = many

    def node(self, crowd):
        return settled(list(zip(places_of(crowd), wished_by(crowd, self.many))), [])

    def matrix(self, crowd):
        return duel_matrix(wished_by(crowd, self.many), list(range(len(crowd))))

    def bounds(self, crowd):
        wanted = min(self.many, len(crowd))
        return (wanted, wanted)

    def text(self):
        many = self.many
        return f"duel {many}"
