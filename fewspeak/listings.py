"""Units, the lines that tell them, and the crowds and groups that plans take."""

from fewspeak.errors import NoLevel, NoListing, NoUnits
from fewspeak.words import is_name, is_whole, number_of

MOST_UNITS = 24
MOST_LEVELS = 3
VALUE_BOUND = 1000000000
MOST_SIZE = 1000000
UNIT_PARTS = 4


def has_listing_length(thing):
    return isinstance(thing, list) and 1 <= len(thing) <= MOST_UNITS


def is_path(thing):
    return isinstance(thing, tuple) and len(thing) <= MOST_LEVELS and all([is_name(name) for name in thing])


def is_unit(thing):
    return (
        isinstance(thing, tuple)
        and len(thing) == UNIT_PARTS
        and is_name(thing[0])
        and is_whole(thing[1], -VALUE_BOUND, VALUE_BOUND)
        and is_whole(thing[2], 1, MOST_SIZE)
        and is_path(thing[3])
    )


def is_new_name(name, ahead):
    return name not in [unit[0] for unit in ahead]


def has_path_length(path, ahead):
    # The first unit alone sets how long paths are; the others are held to it.
    return not ahead or len(path) == len(ahead[0][3])


def need_units(units):
    if not has_listing_length(units):
        raise NoUnits()
    for place, unit in enumerate(units):
        if not is_unit(unit):
            raise NoUnits()
        if not is_new_name(unit[0], units[:place]) or not has_path_length(unit[3], units[:place]):
            raise NoUnits()


def name_part(word, ahead):
    return word if is_name(word) and is_new_name(word, ahead) else None


def path_part(word, ahead):
    path = () if word == "-" else tuple(word.split("."))
    return path if is_path(path) and has_path_length(path, ahead) else None


def part_of(place, word, ahead):
    # None can stand for a wrong word, as no part of a unit is None.
    if place == 0:
        return name_part(word, ahead)
    if place == 1:
        return number_of(word, -VALUE_BOUND, VALUE_BOUND)
    if place == 2:
        return number_of(word, 1, MOST_SIZE)
    return path_part(word, ahead)


def unit_of(words, ahead):
    # Each line ahead has become a unit, so their number is this line's.
    line = len(ahead)
    parts = []
    for place, word in enumerate(words[:UNIT_PARTS]):
        part = part_of(place, word, ahead)
        if part is None:
            raise NoListing(line, place)
        parts.append(part)
    if len(words) != UNIT_PARTS:
        raise NoListing(line, len(parts))
    return tuple(parts)


def words_of(line):
    # What is no text has the word without signs, which is wrong at place 0.
    return line.split(" ") if isinstance(line, str) else [""]


def listing_of(lines):
    if not has_listing_length(lines):
        raise NoUnits()
    units = []
    for line in lines:
        units.append(unit_of(words_of(line), units))
    return units


def path_text(path):
    return ".".join(path) if path else "-"


def listing_lines(units):
    lines = []
    for name, value, size, path in units:
        told = path_text(path)
        lines.append(f"{name} {value} {size} {told}")
    return lines


def values_of(units):
    return [unit[1] for unit in units]


def crowd_of(units):
    return [(place, unit[2], unit[3]) for place, unit in enumerate(units)]


def groups_of(crowd):
    groups = {}
    for place, size, path in crowd:
        if not path:
            raise NoLevel()
        groups.setdefault(path[0], []).append((place, size, path[1:]))
    return list(groups.items())
