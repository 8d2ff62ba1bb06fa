"""Why nothing can be reckoned: a unit that is never drawn, and two units that are never drawn together."""

from fewspeak.listings import values_of
from fewspeak.plans import NOUGHT
from fewspeak.sums import chances, never_together


def hidden(units, plan):
    place = never_drawn(chances(units, plan))
    if place is None:
        return None
    others = values_of(units)
    others[place] += 1
    return (place, values_of(units), others)


def never_drawn(rows):
    # The first one without a share, or None.
    for place, row in enumerate(rows):
        if row[place] == NOUGHT:
            return place
    return None


def unspoken(units, plan):
    rows = chances(units, plan)
    apart = never_together(rows)
    if apart is None:
        return None
    one, other = apart
    return (one, other, [ones_at(places, len(rows)) for places in ((), (one,), (other,), (one, other))])


def ones_at(places, many):
    return [1 if place in places else 0 for place in range(many)]
