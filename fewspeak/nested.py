"""Plans within plans: each, for all groups of a crowd, and first, for those groups that another plan draws."""

from fewspeak.dice import Told, behind
from fewspeak.errors import NoLevel
from fewspeak.fractions import times
from fewspeak.listings import groups_of
from fewspeak.plans import WHOLE, Plan, matrix_by


def parted(crowd):
    return [members for name, members in groups_of(crowd)]


def crowd_of_groups(groups):
    return [(number, sum([member[1] for member in members]), ()) for number, members in enumerate(groups)]


def groups_node(plan, groups, taken):
    # The next group's throws hang behind the ones ahead, so that no node is made before it is thrown for.
    if not groups:
        return Told(taken)
    return behind(plan.node(groups[0]), lambda kept: groups_node(plan, groups[1:], taken + kept))


def spots_of(crowd, groups):
    # For each of the crowd the number of its group and where it stands there.
    spots = {}
    for number, members in enumerate(groups):
        for standing, member in enumerate(members):
            spots[member[0]] = (number, standing)
    return [spots[member[0]] for member in crowd]


def groups_matrix(plan, crowd, groups, outer):
    blocks = [plan.matrix(members) for members in groups]
    spots = spots_of(crowd, groups)
    return matrix_by(len(crowd), lambda one, other: spots_chance(blocks, outer, spots[one], spots[other]))


def spots_chance(blocks, outer, one, other):
    group, place = one
    its_group, its_place = other
    if group == its_group:
        within = blocks[group][place][its_place]
    else:
        within = times(blocks[group][place][place], blocks[its_group][its_place][its_place])
    return times(outer[group][its_group], within)


def need_group_names(levels):
    if levels == 0:
        raise NoLevel()


class Each(Plan):
    def __init__(self, inside):
        self.inside = inside

    def node(self, crowd):
        return groups_node(self.inside, parted(crowd), ())

    def matrix(self, crowd):
        groups = parted(crowd)
        all_drawn = matrix_by(len(groups), lambda one, other: WHOLE)
        return groups_matrix(self.inside, crowd, groups, all_drawn)

    def bounds(self, crowd):
        told = [self.inside.bounds(members) for members in parted(crowd)]
        return (sum([least for least, most in told]), sum([most for least, most in told]))

    def text(self):
        return text_of(self)

    def need_levels(self, levels):
        need_group_names(levels)
        self.inside.need_levels(levels - 1)


class First(Plan):
    def __init__(self, outside, inside):
        self.outside = outside
        self.inside = inside

    def node(self, crowd):
        groups = parted(crowd)
        inside = self.inside
        outer = self.outside.node(crowd_of_groups(groups))
        return behind(outer, lambda kept: groups_node(inside, [groups[number] for number in kept], ()))

    def matrix(self, crowd):
        groups = parted(crowd)
        return groups_matrix(self.inside, crowd, groups, self.outside.matrix(crowd_of_groups(groups)))

    def bounds(self, crowd):
        groups = parted(crowd)
        fewest, most = self.outside.bounds(crowd_of_groups(groups))
        told = [self.inside.bounds(members) for members in groups]
        lows = sorted([low for low, high in told])
        highs = sorted([high for low, high in told], reverse=True)
        return (sum(lows[:fewest]), sum(highs[:most]))

    def text(self):
        return text_of(self)

    def need_levels(self, levels):
        need_group_names(levels)
        self.outside.need_levels(0)
        self.inside.need_levels(levels - 1)


def text_of(plan):
    # A walk, as plans may stand deeper within one another than calls may.
    told = []
    ahead = [plan]
    while ahead:
        here = ahead.pop()
        if isinstance(here, str):
            told.append(here)
        elif isinstance(here, Each):
            ahead.extend([" )", here.inside, "each ( "])
        elif isinstance(here, First):
            ahead.extend([" )", here.inside, " ) then ( ", here.outside, "first ( "])
        else:
            told.append(here.text())
    return "".join(told)
