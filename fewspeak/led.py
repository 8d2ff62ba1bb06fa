"""Whole weights that are led to the sums of rows and columns, or rows and columns that show that there are none."""

from fewspeak.errors import NoBounds
from fewspeak.words import is_list_of, is_whole

MOST_SUMS = 6
MOST_SUM = 24000000
MOST_UNITS = 24
MOST_WEIGHT = 1000000


def is_wished_sum(thing):
    return is_whole(thing, 0, MOST_SUM)


def is_bounded(thing, rows, columns):
    return (
        isinstance(thing, tuple)
        and len(thing) == 4
        and is_whole(thing[0], 0, rows - 1)
        and is_whole(thing[1], 0, columns - 1)
        and is_whole(thing[2], 0, MOST_WEIGHT)
        and is_whole(thing[3], thing[2], MOST_WEIGHT)
    )


def need_bounds(rows, columns, units):
    if not is_list_of(rows, MOST_SUMS, is_wished_sum) or not is_list_of(columns, MOST_SUMS, is_wished_sum):
        raise NoBounds()
    if not is_list_of(units, MOST_UNITS, lambda thing: is_bounded(thing, len(rows), len(columns))):
        raise NoBounds()


def sums_of(weights, units, side, many):
    # Side 0 are the rows, side 1 the columns.
    told = [0 for number in range(many)]
    for unit, weight in zip(units, weights):
        told[unit[side]] += weight
    return told


def led(rows, columns, units):
    need_bounds(rows, columns, units)
    if sum(rows) != sum(columns):
        word = "over" if sum(rows) > sum(columns) else "under"
        return ("none", word, list(range(len(rows))), list(range(len(columns))))
    weights = [low for row, column, low, high in units]
    while True:
        spare = spare_of(rows, columns, units, weights)
        by = reached_from([end for end in spare if spare[end] > 0], units, weights)
        short = [end for end in by if spare[end] < 0]
        if not short:
            break
        path = path_to(short[0], by, units)
        weights = given_along(path, min(spare[path[0][0]], -spare[short[0]]), units, weights)
    if by:
        return ("none", "over", reached_on(0, by), reached_on(1, by))
    return ("weights", weights)


def spare_of(rows, columns, units, weights):
    # An end is a tuple (side, number). A row has to spare what it lacks still, a column what it has too much:
    # both can be given on along a unit, from its row by raising its weight, from its column by lowering it.
    spare = {}
    for number, told in enumerate(sums_of(weights, units, 0, len(rows))):
        spare[(0, number)] = rows[number] - told
    for number, told in enumerate(sums_of(weights, units, 1, len(columns))):
        spare[(1, number)] = told - columns[number]
    return spare


def reached_from(starts, units, weights):
    # For each end that can be given to, nearest first, the place of the unit along which; None at a start.
    # Where all that is reached has nothing short, its outer units have their highs and its inner ones their lows.
    by = {}
    for start in starts:
        by[start] = None
    ahead = list(starts)
    while ahead:
        here = ahead.pop(0)
        for place, unit in enumerate(units):
            there = other_end(unit, here)
            if there is not None and there not in by and room(unit, weights[place], here) > 0:
                by[there] = place
                ahead.append(there)
    return by


def other_end(unit, here):
    if here == (0, unit[0]):
        return (1, unit[1])
    if here == (1, unit[1]):
        return (0, unit[0])
    return None


def room(unit, weight, start):
    # How much can be given on along the unit from this end of it.
    return unit[3] - weight if start[0] == 0 else weight - unit[2]


def path_to(last, by, units):
    # Tuples (end, place), from the start on: from this end one goes on along the unit at this place.
    path = []
    here = last
    while by[here] is not None:
        place = by[here]
        here = other_end(units[place], here)
        path.insert(0, (here, place))
    return path


def given_along(path, most, units, weights):
    many = min([most] + [room(units[place], weights[place], end) for end, place in path])
    told = list(weights)
    for end, place in path:
        told[place] += many if end[0] == 0 else -many
    return told


def reached_on(side, by):
    return sorted([end[1] for end in by if end[0] == side])


def is_led(rows, columns, units, told):
    need_bounds(rows, columns, units)
    if told[0] == "weights":
        return are_led(rows, columns, units, told[1])
    return shows_none(rows, columns, units, told)


def are_led(rows, columns, units, weights):
    if len(weights) != len(units):
        return False
    if not all([is_whole(weight, unit[2], unit[3]) for weight, unit in zip(weights, units)]):
        return False
    return sums_of(weights, units, 0, len(rows)) == rows and sums_of(weights, units, 1, len(columns)) == columns


def shows_none(rows, columns, units, told):
    word, some, others = told[1:]
    if not is_rising(some, len(rows)) or not is_rising(others, len(columns)):
        return False
    # What the rows have more than the columns is what the outer units weigh more than the inner ones.
    more = sum([rows[number] for number in some]) - sum([columns[number] for number in others])
    outer = [unit for unit in units if unit[0] in some and unit[1] not in others]
    inner = [unit for unit in units if unit[1] in others and unit[0] not in some]
    if word == "over":
        return more > greatest_more(outer, inner)
    return word == "under" and -more > greatest_more(inner, outer)


def greatest_more(ones, others):
    return sum([unit[3] for unit in ones]) - sum([unit[2] for unit in others])


def is_rising(numbers, many):
    return all([is_whole(number, 0, many - 1) for number in numbers]) and numbers == sorted(set(numbers))
