"""Sums reckoned from those drawn, and the spread that belongs to them."""

from fewspeak.errors import NoSpread
from fewspeak.fractions import minus, over, times, total
from fewspeak.listings import crowd_of, need_units, values_of
from fewspeak.plans import NOUGHT, WHOLE


def chances(units, plan):
    need_units(units)
    # All paths are as long as the first one's.
    plan.need_levels(len(units[0][3]))
    return plan.matrix(crowd_of(units))


def true_sum(units):
    need_units(units)
    return sum(values_of(units))


def mean_told(units, plan):
    some = places_with_share(chances(units, plan))
    return sum([units[place][1] for place in some])


def sum_told(units, plan, kept):
    rows = chances(units, plan)
    values = values_of(units)
    return total([raised(rows, values, place) for place in kept])


def spread(units, plan):
    return spread_by(chances(units, plan), values_of(units))


def spread_by(rows, values):
    return pairs_total(places_with_share(rows), lambda one, other: spread_part(rows, values, one, other))


def spread_told(units, plan, kept):
    rows = chances(units, plan)
    values = values_of(units)
    apart = never_together(rows)
    if apart is not None:
        raise NoSpread(apart[0], apart[1])
    return pairs_total(kept, lambda one, other: told_part(rows, values, one, other))


def places_with_share(rows):
    return [place for place, row in enumerate(rows) if row[place] != NOUGHT]


def never_together(rows):
    # The first two with shares that are never drawn together, or None.
    some = places_with_share(rows)
    for one in some:
        for other in some:
            if one < other and rows[one][other] == NOUGHT:
                return (one, other)
    return None


def pairs_total(places, tell):
    parts = []
    for one in places:
        parts.extend([tell(one, other) for other in places])
    return total(parts)


def raised(rows, values, place):
    return over((values[place], 1), rows[place][place])


def spread_part(rows, values, one, other):
    leaning = over(rows[one][other], times(rows[one][one], rows[other][other]))
    return times(minus(leaning, WHOLE), (values[one] * values[other], 1))


def told_part(rows, values, one, other):
    together = rows[one][other]
    beyond = minus(together, times(rows[one][one], rows[other][other]))
    return times(over(beyond, together), times(raised(rows, values, one), raised(rows, values, other)))
