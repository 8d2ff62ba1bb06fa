import copy
import itertools
import unittest
from fractions import Fraction

from fewspeak.dice import Node, drawn, matrix_of, table
from fewspeak.duels import Duel
from fewspeak.errors import NoLevel, SpeakError
from fewspeak.nested import Each, First
from fewspeak.plans import Few, Loose, Plan, Start
from walks import crowd_by, pair, shape, walk, walked_matrix, ways

BARE = (Few(2), Start(3), Loose(2), Duel(2))
DEEP = Each(First(Few(1), Each(Duel(1))))


def crowd_with(told):
    """A crowd of places 0, 1, 2 .. by texts such as "3 a.b": the size and the path, "-" for none."""
    words = [text.split(" ") for text in told]
    return [(place, int(size), () if path == "-" else tuple(path.split("."))) for place, (size, path) in enumerate(words)]


def parted(crowd):
    """The members of the crowd's groups, without their groups' names."""
    groups = {}
    for place, size, path in crowd:
        groups.setdefault(path[0], []).append((place, size, path[1:]))
    return list(groups.values())


def told_by(plan, crowd):
    """What is kept in which share, by the words of 50 and 51: a dict from rising tuples to Fractions."""
    if not isinstance(plan, (Each, First)):
        return gathered(ways(plan.node(crowd)))
    groups = parted(crowd)
    if isinstance(plan, Each):
        return together(plan.inside, groups)
    outer = [(number, sum(member[1] for member in members), ()) for number, members in enumerate(groups)]
    found = []
    for numbers, part in told_by(plan.outside, outer).items():
        inner = together(plan.inside, [groups[number] for number in numbers])
        found.extend((kept, part * chance) for kept, chance in inner.items())
    return gathered(found)


def together(plan, groups):
    found = {(): Fraction(1)}
    for members in groups:
        inner = told_by(plan, members).items()
        found = gathered((tuple(sorted(kept + more)), part * chance)
                         for kept, part in found.items() for more, chance in inner)
    return found


def gathered(told):
    found = {}
    for kept, part in told:
        found[kept] = found.get(kept, 0) + part
    return found


def has_first(plan):
    return "first" in plan.text()


ONE_NAME = (crowd_with(["1 a", "2 a", "1 b"]), crowd_with(["1 a", "1 b", "2 a", "3 c", "1 b", "1 a"]),
            crowd_with(["2 a"]), crowd_with(["1 a", "1 b", "1 c", "1 d"]), crowd_with(["1 z", "3 z", "1 z"]),
            [(3, 1, ("b",)), (7, 1, ("a",)), (9, 2, ("b",)), (23, 1, ("a",))], [])
TWO_NAMES = (crowd_with(["1 a.x", "1 a.x", "2 b.x", "1 a.y", "1 b.x"]), crowd_with(["1 a.x", "1 b.x", "1 b.y", "3 a.x"]),
             crowd_with(["1 a.a", "2 a.b", "1 a.c", "1 a.a"]), [])
THREE_NAMES = (crowd_with(["1 a.x.m", "1 a.x.n", "1 b.x.m", "2 a.y.m", "1 b.x.m"]), crowd_with(["1 a.x.m", "1 a.x.m"]), [])

ONE_DEEP = [Each(plan) for plan in (Few(1), Few(2), Start(2), Start(3), Loose(1), Duel(1), Duel(2), Few(0), Start(1))] + [
    First(outside, inside) for outside in (Few(1), Start(2), Loose(1), Duel(1), Few(24), Few(0))
    for inside in (Few(1), Start(2), Loose(1), Duel(2), Few(0))]
TWO_DEEP = [Each(Each(Few(1))), Each(Each(Start(2))), Each(First(Few(1), Few(1))), Each(First(Duel(1), Start(2))),
            First(Few(1), Each(Few(1))), First(Start(2), Each(Duel(1))), First(Duel(1), First(Duel(1), Duel(1))),
            First(Loose(1), Each(Start(1)))]
THREE_DEEP = [Each(Each(Each(Few(1)))), Each(Each(Each(Start(2)))), First(Duel(1), First(Few(1), First(Start(2), Duel(1)))),
              Each(First(Few(1), Each(Few(1)))), First(Start(2), Each(First(Few(1), Few(1))))]


def small_cases():
    """Plans with crowds that bear them, few enough in their throws to walk through all of them."""
    yield from itertools.product(ONE_DEEP, ONE_NAME)
    yield from itertools.product(TWO_DEEP, TWO_NAMES)
    yield from itertools.product(THREE_DEEP, THREE_NAMES)


class WholeTest(unittest.TestCase):
    """Promises 7, 30, 50, 51 and 53, by all throws of small crowds."""

    def test_every_throw_against_the_matrix_and_the_bounds(self):
        for plan, crowd in small_cases():
            with self.subTest(plan.text(), crowd=crowd):
                node, places = plan.node(crowd), [member[0] for member in crowd]
                walked = list(walk(node))
                told = plan.matrix(crowd)
                self.assertEqual(told, walked_matrix(node, places))
                lengths = [len(kept) for throws, kept, part in walked]
                least, most = plan.bounds(crowd)
                self.assertTrue(least <= min(lengths) <= max(lengths) <= most)
                if not has_first(plan):
                    self.assertEqual((least, most), (min(lengths), max(lengths)))
                with_share = [place for number, place in enumerate(places) if told[number][number] != (0, 1)]
                self.assertEqual({place for throws, kept, part in walked for place in kept}, set(with_share))
                for throws, kept, part in walked[:50]:
                    self.assertEqual(drawn(node, list(throws)), kept)

    def test_the_table_by_the_words(self):
        for plan, crowd in small_cases():
            with self.subTest(plan.text(), crowd=crowd):
                node, places = plan.node(crowd), [member[0] for member in crowd]
                told = told_by(plan, crowd)
                self.assertEqual(table(node), [(kept, pair(told[kept])) for kept in sorted(told)])
                self.assertEqual(matrix_of(node, places), plan.matrix(crowd))

    def test_the_kinds_of_what_is_told(self):
        for plan, crowd in small_cases():
            told, bounds = plan.matrix(crowd), plan.bounds(crowd)
            self.assertIsInstance(plan.node(crowd), Node)
            self.assertEqual([type(told)] + [type(row) for row in told], [list] * (len(crowd) + 1))
            self.assertTrue(all(type(part) is tuple and pair(Fraction(*part)) == part for row in told for part in row))
            self.assertEqual([type(bounds), type(bounds[0]), type(bounds[1])], [tuple, int, int])

    def test_a_crowd_of_none(self):
        deep = Each(Each(Each(Each(Each(Few(1))))))
        for plan in ONE_DEEP + TWO_DEEP + THREE_DEEP + [DEEP, deep, First(deep, deep), First(Each(Few(1)), Few(1))]:
            with self.subTest(plan.text()):
                node = plan.node([])
                self.assertEqual((node.is_told(), node.kept()), (True, ()))
                self.assertEqual(plan.matrix([]), [])
                self.assertEqual(plan.bounds([]), (0, 0))


class OwnTest(unittest.TestCase):
    """Promise 5, and what the interface tells of the two classes."""

    def test_a_crowd_is_not_changed(self):
        for plan, crowd in small_cases():
            before = copy.deepcopy(crowd)
            shape(plan.node(crowd)), plan.matrix(crowd), plan.bounds(crowd)
            self.assertEqual(crowd, before)
        for plan in (Each(Few(1)), First(Few(1), Few(1)), First(Each(Few(1)), Few(1))):
            crowd = crowd_by([1, 2, 3])
            for ask in (plan.node, plan.matrix, plan.bounds):
                with self.assertRaises(NoLevel):
                    ask(crowd)
                self.assertEqual(crowd, crowd_by([1, 2, 3]))

    def test_what_is_done_to_the_crowd_behind_the_call_changes_nothing(self):
        for plan in ONE_DEEP:
            crowd = crowd_with(["1 a", "1 b", "2 a", "3 c", "1 b", "1 a"])
            node, matrix = plan.node(crowd), plan.matrix(crowd)
            told, kept = shape(plan.node(crowd)), copy.deepcopy(matrix)
            crowd[0] = (0, 99, ("c",))
            crowd.pop()
            self.assertEqual(shape(node), told)
            crowd.clear()
            self.assertEqual(shape(node), told)
            self.assertEqual(matrix, kept)

    def test_what_is_done_to_what_was_told_changes_nothing(self):
        for plan in ONE_DEEP:
            crowd = crowd_with(["1 a", "1 b", "2 a", "3 c", "1 b", "1 a"])
            node, matrix = plan.node(crowd), plan.matrix(crowd)
            told, kept = shape(node), copy.deepcopy(matrix)
            matrix[0][0] = None
            self.assertEqual(matrix[1:], kept[1:])
            matrix.clear()
            node.parts().clear()
            self.assertEqual(plan.matrix(crowd), kept)
            self.assertEqual(shape(node), told)
            self.assertEqual(shape(plan.node(crowd)), told)

    def test_values_and_classes(self):
        one, other = Few(1), Start(2)
        self.assertIs(Each(one).inside, one)
        self.assertIs(First(one, other).outside, one)
        self.assertIs(First(one, other).inside, other)
        for kind in (Each, First):
            self.assertTrue(issubclass(kind, Plan))
            kinds = (Each, First, Few, Start, Loose, Duel)
            self.assertEqual([base for base in kinds if issubclass(kind, base)], [kind])
        self.assertEqual([base for base in (Few, Start, Loose, Duel) if issubclass(base, (Each, First))], [])

    def test_one_plan_within_two_others(self):
        within = Few(1)
        crowd = crowd_with(["1 a", "2 a", "1 b"])
        self.assertEqual(Each(within).bounds(crowd), (2, 2))
        self.assertEqual(First(within, within).bounds(crowd), (1, 1))
        self.assertEqual(Each(within).text(), "each ( few 1 )")


class EachTest(unittest.TestCase):
    """Promises 50 and 53."""

    def test_the_throws_of_one_group_behind_those_of_the_other(self):
        # The group a has the places 0, 2, 3, the group b 1 and 4.
        crowd = crowd_with(["1 a", "1 b", "1 a", "1 a", "1 b"])
        self.assertEqual(shape(Each(Few(1)).node(crowd)), [
            (1, [(1, (0, 1)), (1, (0, 4))]),
            (2, [(1, [(1, (1, 2)), (1, (2, 4))]), (1, [(1, (1, 3)), (1, (3, 4))])])])

    def test_groups_come_in_the_order_in_which_they_come_first(self):
        crowd = crowd_with(["1 z", "1 a", "1 a", "1 a", "1 z"])
        node = Each(Few(1)).node(crowd)
        self.assertEqual([node.sides(), node.after(0).sides()], [2, 3])
        self.assertEqual(drawn(node, [0, 0]), (0, 1))
        self.assertEqual(drawn(node, [1, 1, 1]), (3, 4))

    def test_groups_without_throws(self):
        crowd = crowd_with(["1 a", "1 b", "1 c", "1 b"])
        self.assertEqual(shape(Each(Few(1)).node(crowd)), [(1, (0, 1, 2)), (1, (0, 2, 3))])
        self.assertEqual(shape(Each(Few(2)).node(crowd)), (0, 1, 2, 3))
        self.assertEqual(shape(Each(Few(0)).node(crowd)), ())
        self.assertEqual(shape(Each(Few(1)).node(crowd_with([f"1 g{letter}" for letter in "abcdefghijklmnopqrstuvwx"]))),
                         tuple(range(24)))

    def test_the_plan_within_has_the_sizes_of_its_group_alone(self):
        crowd = crowd_with(["1 a", "9 b", "3 a", "1 b"])
        self.assertEqual(Each(Duel(1)).matrix(crowd), [
            [(1, 4), (9, 40), (0, 1), (1, 40)], [(9, 40), (9, 10), (27, 40), (0, 1)],
            [(0, 1), (27, 40), (3, 4), (3, 40)], [(1, 40), (0, 1), (3, 40), (1, 10)]])

    def test_two_and_three_deep_by_hand(self):
        crowd = crowd_with(["1 a.x", "1 a.y", "1 a.x", "1 b.x"])
        self.assertEqual(shape(Each(Each(Few(1))).node(crowd)), [(1, (0, 1, 3)), (1, (1, 2, 3))])
        crowd = crowd_with(["1 a.x.m", "1 a.y.m", "1 a.x.m", "1 b.x.m", "1 a.x.n"])
        self.assertEqual(shape(Each(Each(Few(1))).node(crowd)), [
            (1, (0, 1, 3)), (2, [(1, (1, 2, 3)), (1, (1, 3, 4))])])
        self.assertEqual(shape(Each(Each(Each(Few(1)))).node(crowd)), [(1, (0, 1, 3, 4)), (1, (1, 2, 3, 4))])

    def test_the_bounds_are_sums(self):
        crowd = crowd_with(["1 a", "1 b", "1 a", "1 c", "1 a", "1 b"])
        for plan, bounds in ((Few(2), (5, 5)), (Start(2), (2, 4)), (Few(0), (0, 0)), (Loose(1), (1, 6)), (Duel(1), (3, 3))):
            with self.subTest(plan.text()):
                self.assertEqual(Each(plan).bounds(crowd), bounds)

    def test_24_in_three_groups(self):
        crowd = crowd_with([f"{1 + place} {'abc'[place % 3]}" for place in range(24)])
        told = Each(Duel(3)).matrix(crowd)
        blocks = [Duel(3).matrix(members) for members in parted(crowd)]
        for one, other in itertools.product(range(24), repeat=2):
            group, its_group = one % 3, other % 3
            if group == its_group:
                wanted = Fraction(*blocks[group][one // 3][other // 3])
            else:
                wanted = Fraction(*blocks[group][one // 3][one // 3]) * Fraction(*blocks[its_group][other // 3][other // 3])
            self.assertEqual(told[one][other], pair(wanted))
        self.assertEqual(Each(Duel(3)).bounds(crowd), (9, 9))


class FirstTest(unittest.TestCase):
    """Promises 51 and 53."""

    def test_the_groups_then_their_members(self):
        # The group a has the places 0, 2, 3, the group b 1 and 4.
        crowd = crowd_with(["1 a", "1 b", "1 a", "1 a", "1 b"])
        self.assertEqual(shape(First(Few(1), Few(1)).node(crowd)), [
            (1, [(1, (0,)), (2, [(1, (2,)), (1, (3,))])]), (1, [(1, (1,)), (1, (4,))])])
        self.assertEqual(shape(First(Few(2), Few(1)).node(crowd)), shape(Each(Few(1)).node(crowd)))
        self.assertEqual(shape(First(Few(0), Few(1)).node(crowd)), ())
        self.assertEqual(shape(First(Few(1), Few(0)).node(crowd)), [(1, ()), (1, ())])

    def test_a_group_has_the_sum_of_its_members_sizes(self):
        crowd = crowd_with(["1 a", "5 b", "2 a"])
        self.assertEqual(shape(First(Duel(1), Few(2)).node(crowd)), [(3, (0, 2)), (5, (1,))])
        self.assertEqual(shape(First(Loose(1), Few(2)).node(crowd)), [
            (3, [(5, (0, 1, 2)), (3, (0, 2))]), (5, [(5, (1,)), (3, ())])])
        self.assertEqual(First(Duel(1), Few(2)).matrix(crowd), [
            [(3, 8), (0, 1), (3, 8)], [(0, 1), (5, 8), (0, 1)], [(3, 8), (0, 1), (3, 8)]])

    def test_the_outer_plan_is_asked_for_the_numbers_of_groups(self):
        crowd = [(7, 1, ("b",)), (8, 1, ("a",)), (9, 1, ("b",)), (20, 1, ("c",))]
        self.assertEqual(shape(First(Start(2), Few(24)).node(crowd)), [(1, (7, 9, 20)), (1, (8,))])

    def test_the_matrix_by_hand(self):
        crowd = crowd_with(["1 a", "1 a", "1 b", "1 c"])
        # Each two groups in 1/3, each group in 2/3 of all throws.
        self.assertEqual(First(Few(2), Few(1)).matrix(crowd), [
            [(1, 3), (0, 1), (1, 6), (1, 6)], [(0, 1), (1, 3), (1, 6), (1, 6)],
            [(1, 6), (1, 6), (2, 3), (1, 3)], [(1, 6), (1, 6), (1, 3), (2, 3)]])

    def test_the_bounds_with_unlike_groups(self):
        crowd = crowd_with(["1 a", "1 b", "1 b", "1 c", "1 c", "1 c", "1 d", "1 d", "1 d", "1 d"])
        for plan, bounds in ((First(Few(2), Few(24)), (3, 7)), (First(Few(1), Few(3)), (1, 3)), (First(Few(3), Few(24)), (6, 9)),
                             (First(Few(2), Start(3)), (0, 3)), (First(Start(3), Few(24)), (1, 7)),
                             (First(Loose(1), Few(2)), (0, 7)), (First(Few(4), Few(24)), (10, 10)),
                             (First(Few(0), Few(24)), (0, 0)), (First(Duel(2), Loose(2)), (0, 7))):
            with self.subTest(plan.text()):
                self.assertEqual(plan.bounds(crowd), bounds)
        for order in itertools.permutations(["1 a", "1 b", "1 b", "1 c", "1 c"]):
            self.assertEqual(First(Few(1), Few(24)).bounds(crowd_with(order)), (1, 2))

    def test_two_three_and_four_deep(self):
        crowd = crowd_with(["1 a.x.m", "1 a.x.n", "1 b.x.m", "1 b.y.m"])
        plan = First(Few(1), First(Few(1), First(Few(1), Few(1))))
        self.assertEqual(shape(plan.node(crowd)), [(1, [(1, (0,)), (1, (1,))]), (1, [(1, (2,)), (1, (3,))])])
        self.assertEqual(plan.bounds(crowd), (1, 1))
        self.assertEqual(plan.matrix(crowd), [[(1, 4) if one == other else (0, 1) for other in range(4)] for one in range(4)])
        self.assertEqual(shape(First(Few(1), Each(Each(Few(1)))).node(crowd)), [(1, (0, 1)), (1, (2, 3))])
        # Four deep, a group is looked for where no name is left.
        deep = First(Few(1), First(Few(1), First(Few(1), First(Few(1), Few(1)))))
        with self.assertRaises(NoLevel):
            deep.matrix(crowd)


class LevelsTest(unittest.TestCase):
    """Promises 30 and 52."""

    def assertNoLevel(self, ask, thing):
        with self.assertRaises(SpeakError) as caught:
            ask(thing)
        self.assertIs(type(caught.exception), NoLevel)

    def assertNeeds(self, plan, least):
        for levels in range(4):
            with self.subTest(plan.text(), levels=levels):
                if levels < least:
                    self.assertNoLevel(plan.need_levels, levels)
                else:
                    self.assertIsNone(plan.need_levels(levels))

    def test_the_names_that_each_kind_needs(self):
        for plan in BARE:
            self.assertNeeds(plan, 0)
            self.assertNeeds(Each(plan), 1)
            self.assertNeeds(Each(Each(plan)), 2)
            self.assertNeeds(Each(Each(Each(plan))), 3)
            self.assertNeeds(Each(Each(Each(Each(plan)))), 4)
            for other in BARE:
                self.assertNeeds(First(other, plan), 1)
                self.assertNeeds(First(other, Each(plan)), 2)
                self.assertNeeds(Each(First(other, plan)), 2)
                self.assertNeeds(First(other, First(plan, Each(other))), 3)
                self.assertNeeds(First(other, First(plan, First(other, First(plan, other)))), 4)

    def test_an_outer_plan_that_needs_names_is_never_borne(self):
        for outside in (Each(Few(1)), First(Few(1), Few(1)), Each(Each(Few(1)))):
            for inside in (Few(1), Each(Few(1))):
                self.assertNeeds(First(outside, inside), 4)
                self.assertNeeds(Each(First(outside, inside)), 4)
                self.assertNeeds(First(Few(1), First(outside, inside)), 4)

    def test_paths_without_names(self):
        for plan in (Each(Few(1)), First(Few(1), Few(1)), Each(Each(Few(1))), First(Few(0), Few(0)), Each(Few(0))):
            for crowd in (crowd_by([1]), crowd_by([1, 2, 3])):
                with self.subTest(plan.text(), crowd=crowd):
                    self.assertNoLevel(plan.node, crowd)
                    self.assertNoLevel(plan.matrix, crowd)
                    self.assertNoLevel(plan.bounds, crowd)

    def test_paths_with_a_name_too_few(self):
        one, two = crowd_with(["1 a", "1 b", "1 a"]), crowd_with(["1 a.x", "1 b.x", "1 a.y"])
        for plan, crowd in ((Each(Each(Few(1))), one), (Each(First(Few(1), Few(1))), one), (First(Few(1), Each(Few(1))), one),
                            (Each(Each(Each(Few(1)))), two), (First(Few(1), Each(First(Few(1), Few(1)))), two)):
            with self.subTest(plan.text()):
                self.assertNoLevel(lambda members: shape(plan.node(members)), crowd)
                self.assertNoLevel(plan.matrix, crowd)
                self.assertNoLevel(plan.bounds, crowd)

    def test_an_outer_plan_that_looks_for_groups_of_groups(self):
        for crowd in (crowd_with(["1 a", "1 b"]), crowd_with(["1 a.x.m", "1 b.x.m"])):
            for outside in (Each(Few(1)), First(Few(1), Few(1))):
                plan = First(outside, Few(1))
                self.assertNoLevel(plan.node, crowd)
                self.assertNoLevel(plan.matrix, crowd)
                self.assertNoLevel(plan.bounds, crowd)

    def test_more_names_than_needed_change_nothing(self):
        short, long = crowd_with(["1 a", "1 b", "3 a"]), crowd_with(["1 a.x.m", "1 b.y.m", "3 a.z.n"])
        for plan in ONE_DEEP:
            self.assertEqual(shape(plan.node(short)), shape(plan.node(long)))
            self.assertEqual(plan.matrix(short), plan.matrix(long))
            self.assertEqual(plan.bounds(short), plan.bounds(long))


class TextTest(unittest.TestCase):
    """Promises 54 and 55, as far as texts are told."""

    def test_texts(self):
        for plan, text in ((Each(Few(3)), "each ( few 3 )"), (First(Duel(2), Loose(1)), "first ( duel 2 ) then ( loose 1 )"),
                           (Each(Each(Start(7))), "each ( each ( start 7 ) )"),
                           (First(Each(Few(0)), First(Few(1), Few(2))),
                            "first ( each ( few 0 ) ) then ( first ( few 1 ) then ( few 2 ) )"),
                           (DEEP, "each ( first ( few 1 ) then ( each ( duel 1 ) ) )")):
            self.assertEqual(plan.text(), text)

    def test_four_deep_and_deeper(self):
        plan, text = Few(1), "few 1"
        for depth in range(30):
            plan, text = Each(plan), f"each ( {text} )"
            self.assertEqual(plan.text(), text)
            plan, text = First(Few(2), plan), f"first ( few 2 ) then ( {text} )"
            self.assertEqual(plan.text(), text)
            plan, text = First(plan, Duel(3)), f"first ( {text} ) then ( duel 3 )"
            self.assertEqual(plan.text(), text)

    def test_deeper_than_calls_may_stand_within_one_another(self):
        plan = Start(9)
        for depth in range(3000):
            plan = Each(plan)
        self.assertEqual(plan.text(), "each ( " * 3000 + "start 9" + " )" * 3000)


if __name__ == "__main__":
    unittest.main()
