import copy
import itertools
import random
import unittest
from fractions import Fraction
from math import comb

from fewspeak.dice import Node, drawn, matrix_of, table
from fewspeak.duels import Duel
from fewspeak.errors import NoPlan, NoThrow, SpeakError, TooMany
from fewspeak.plans import Few, Loose, Plan, Start, wished
from walks import NO_WHOLE_NUMBERS, crowd_by, pair, walk, walked_matrix, walked_table, ways

KINDS = (Few, Start, Loose, Duel)
BOUNDS = {Few: (0, 24), Start: (1, 100), Loose: (0, 24), Duel: (0, 24)}
WORDS = {Few: "few", Start: "start", Loose: "loose", Duel: "duel"}


def some_plans():
    """Each kind with its bounds and some numbers between."""
    return ([Few(many) for many in (0, 1, 2, 3, 5, 23, 24)] + [Start(step) for step in (1, 2, 3, 4, 7, 24, 99, 100)]
            + [Loose(many) for many in (0, 1, 2, 3, 5, 23, 24)] + [Duel(many) for many in (0, 1, 2, 3, 5, 23, 24)])


def some_crowds():
    """Crowds of none to 24, with sizes alike and unlike, and places with gaps."""
    return [[], crowd_by([5]), crowd_by([1], [23]), crowd_by([1, 1]), crowd_by([3, 8], [4, 17]),
            crowd_by([2, 4, 6], [1, 5, 20]), crowd_by([1, 100, 3, 50, 2]), crowd_by([24000000, 1, 24000000, 7], [0, 2, 3, 9]),
            crowd_by(list(range(1, 25))), crowd_by([1000000] * 24)]


def small_crowds():
    """Crowds whose throws are few enough to walk through all of them."""
    throws = random.Random(7)
    for sizes in ([], [3], [1, 1], [1, 2], [3, 1], [1, 1, 1], [3, 2, 1], [1, 4, 1], [1, 1, 1, 1], [2, 1, 2, 1], [1, 5, 1, 1],
                  [1, 1, 1, 1, 1], [4, 1, 2, 1, 8]):
        yield crowd_by(sizes, sorted(throws.sample(range(24), len(sizes))))


class WishedTest(unittest.TestCase):
    """Promise 33."""

    def reckoned(self, sizes, many):
        """The wished shares, round by round, as Fractions."""
        if len(sizes) <= many:
            return [Fraction(1)] * len(sizes)
        if many == 0:
            return [Fraction(0)] * len(sizes)
        left, wanted = dict(enumerate(sizes)), many
        while True:
            whole = sum(left.values())
            aside = [place for place, size in left.items() if Fraction(size * wanted, whole) >= 1]
            if not aside:
                return [Fraction(left[place] * wanted, whole) if place in left else Fraction(1)
                        for place in range(len(sizes))]
            wanted -= len(aside)
            left = {place: size for place, size in left.items() if place not in aside}

    def test_no_sizes(self):
        for many in (0, 1, 5, 24):
            self.assertEqual(wished([], many), [])

    def test_the_number_0(self):
        self.assertEqual(wished([5], 0), [(0, 1)])
        self.assertEqual(wished([1, 24000000, 3], 0), [(0, 1)] * 3)

    def test_no_more_sizes_than_the_number(self):
        for sizes, many in (([5], 1), ([5], 24), ([1, 24000000], 2), ([1, 2, 3], 3), ([1, 2, 3], 4), ([1] * 24, 24)):
            with self.subTest(sizes, many=many):
                self.assertEqual(wished(sizes, many), [(1, 1)] * len(sizes))

    def test_shares_by_their_sizes(self):
        self.assertEqual(wished([1, 2, 3], 1), [(1, 6), (1, 3), (1, 2)])
        self.assertEqual(wished([2, 2, 2, 2], 2), [(1, 2)] * 4)
        self.assertEqual(wished([4, 3, 2, 1], 2), [(4, 5), (3, 5), (2, 5), (1, 5)])
        self.assertEqual(wished([1] * 24, 7), [(7, 24)] * 24)

    def test_a_size_that_comes_just_to_the_sum_is_put_aside(self):
        self.assertEqual(wished([3, 1, 2], 2), [(1, 1), (1, 3), (2, 3)])
        self.assertEqual(wished([6, 3, 1, 2], 2), [(1, 1), (1, 2), (1, 6), (1, 3)])

    def test_all_of_a_round_are_put_aside_at_once(self):
        self.assertEqual(wished([10, 1, 10, 2, 1], 3), [(1, 1), (1, 4), (1, 1), (1, 2), (1, 4)])

    def test_a_round_looks_at_what_is_left_and_still_wanted(self):
        # 6 is put aside by 6 * 2 at least 6 + 2 + 1 + 1; then 1 is wanted, and 2 * 1 is less than 4.
        self.assertEqual(wished([6, 2, 1, 1], 2), [(1, 1), (1, 2), (1, 4), (1, 4)])
        # 50 by the first round, 10 by the second, 4 by the third.
        self.assertEqual(wished([50, 10, 4, 1, 1], 4), [(1, 1), (1, 1), (1, 1), (1, 2), (1, 2)])

    def test_one_after_the_other_put_aside_round_by_round(self):
        sizes = [3 ** number for number in range(14)] + [1]
        self.assertEqual(wished(sizes, 14), [(1, 2)] + [(1, 1)] * 13 + [(1, 2)])
        self.assertEqual(wished(list(reversed(sizes)), 14), [(1, 2)] + [(1, 1)] * 13 + [(1, 2)])

    def test_great_sizes(self):
        self.assertEqual(wished([24000000] * 24, 23), [(23, 24)] * 24)
        self.assertEqual(wished([24000000] * 22 + [1, 1], 23), [(1, 1)] * 22 + [(1, 2)] * 2)
        self.assertEqual(wished([24000000, 1], 1), [(24000000, 24000001), (1, 24000001)])
        self.assertEqual(wished([24000000, 23999999, 1], 2), [(1, 1), (23999999, 24000000), (1, 24000000)])

    def test_against_the_rounds_told(self):
        throws = random.Random(33)
        for number in range(600):
            most = throws.choice((2, 4, 30, 1000, 24000000))
            sizes = [throws.randrange(1, most + 1) for size in range(throws.randrange(25))]
            many = throws.randrange(25) if throws.randrange(2) else throws.randrange(len(sizes) + 1)
            with self.subTest(sizes=sizes, many=many):
                self.assertEqual(wished(sizes, many), [pair(part) for part in self.reckoned(sizes, many)])

    def test_every_short_list_of_small_sizes(self):
        for long in range(5):
            for sizes in itertools.product(range(1, 7), repeat=long):
                for many in range(long + 2):
                    told = [Fraction(*part) for part in wished(list(sizes), many)]
                    self.assertEqual(told, self.reckoned(sizes, many), (sizes, many))
                    self.assertEqual(sum(told), min(many, long))
                    self.assertTrue(all(0 <= part <= 1 for part in told))

    def test_the_list_stays_and_what_is_told_is_the_askers_own(self):
        for sizes, many in (([3, 1, 2], 2), ([3, 1, 2], 0), ([3, 1, 2], 3), ([50, 10, 4, 1, 1], 4), ([], 2)):
            before = list(sizes)
            told = wished(sizes, many)
            kept = list(told)
            self.assertIs(type(told), list)
            self.assertEqual(sizes, before)
            told.append((1, 1))
            told[0] = None
            self.assertEqual(wished(sizes, many), kept)


class MadeTest(unittest.TestCase):
    """Promises 6, 35 and 44."""

    def assertNoPlan(self, kind, thing):
        with self.assertRaises(SpeakError) as caught:
            kind(thing)
        self.assertIs(type(caught.exception), NoPlan)
        self.assertEqual(caught.exception.place, 0)
        self.assertIs(type(caught.exception.place), int)

    def test_numbers_at_both_bounds_and_between(self):
        for kind, (low, high) in BOUNDS.items():
            for number in range(low, high + 1):
                plan = kind(number)
                told = plan.step if kind is Start else plan.many
                self.assertEqual(told, number)
                self.assertIs(type(told), int)

    def test_numbers_beyond_the_bounds(self):
        for kind, (low, high) in BOUNDS.items():
            for number in (low - 1, low - 2, high + 1, high + 2, -10 ** 30, 10 ** 30, -high):
                with self.subTest(kind.__name__, number=number):
                    self.assertNoPlan(kind, number)

    def test_things_that_are_no_whole_numbers(self):
        for kind in KINDS:
            for thing in NO_WHOLE_NUMBERS + ("3", "few 3", (3, 1), [3], 3.0):
                with self.subTest(kind.__name__, thing=repr(thing)):
                    self.assertNoPlan(kind, thing)

    def test_texts(self):
        for kind, (low, high) in BOUNDS.items():
            for number in range(low, high + 1):
                self.assertEqual(kind(number).text(), f"{WORDS[kind]} {number}")
        self.assertEqual([Few(3).text(), Start(4).text(), Loose(5).text(), Duel(5).text()],
                         ["few 3", "start 4", "loose 5", "duel 5"])

    def test_each_kind_stands_under_plan_and_none_under_another(self):
        for kind in KINDS:
            self.assertTrue(issubclass(kind, Plan))
            self.assertEqual([other for other in KINDS if issubclass(kind, other)], [kind])

    def test_two_plans_have_nothing_in_common(self):
        one, other = Few(2), Few(7)
        crowd = crowd_by([1] * 9)
        self.assertEqual((one.text(), other.text()), ("few 2", "few 7"))
        self.assertEqual((one.bounds(crowd), other.bounds(crowd)), ((2, 2), (7, 7)))

    def test_a_refusal_leaves_nothing_behind(self):
        for kind in KINDS:
            plan = kind(2)
            self.assertNoPlan(kind, 101)
            self.assertEqual(plan.text(), f"{WORDS[kind]} 2")


class PlansTest(unittest.TestCase):
    """Promises 5, 7, 30 and 44: what holds of each of the plans that need no names."""

    def test_any_number_of_names_will_do(self):
        for plan in some_plans():
            for levels in range(4):
                self.assertIsNone(plan.need_levels(levels))

    def test_a_crowd_of_none(self):
        for plan in some_plans():
            with self.subTest(plan.text()):
                node = plan.node([])
                self.assertIs(node.is_told(), True)
                self.assertEqual(node.kept(), ())
                self.assertEqual(plan.matrix([]), [])
                self.assertEqual(plan.bounds([]), (0, 0))

    def test_every_throw_against_the_matrix_and_the_bounds(self):
        plans = ([Few(many) for many in range(7)] + [Start(step) for step in (1, 2, 3, 4, 5, 6, 9)]
                 + [Loose(many) for many in range(7)] + [Duel(many) for many in range(7)])
        for plan in plans:
            for crowd in small_crowds():
                node, places = plan.node(crowd), [member[0] for member in crowd]
                with self.subTest(plan.text(), crowd=crowd):
                    walked = list(walk(node))
                    told = plan.matrix(crowd)
                    self.assertEqual(told, walked_matrix(node, places))
                    self.assertEqual(told, matrix_of(node, places))
                    self.assertEqual(table(node), walked_table(node))
                    lengths = [len(kept) for throws, kept, part in walked]
                    self.assertEqual(plan.bounds(crowd), (min(lengths), max(lengths)))
                    self.assertTrue(all(place in places for throws, kept, part in walked for place in kept))
                    for throws, kept, part in walked:
                        self.assertEqual(drawn(node, list(throws)), kept)

    def test_every_way_against_the_matrix_and_the_bounds(self):
        for plan in some_plans():
            for crowd in some_crowds():
                node, places = plan.node(crowd), [member[0] for member in crowd]
                try:
                    told = table(node)
                except TooMany:
                    continue
                with self.subTest(plan.text(), crowd=crowd):
                    self.assertEqual(matrix_of(node, places), plan.matrix(crowd))
                    lengths = [len(kept) for kept, part in told]
                    self.assertEqual(plan.bounds(crowd), (min(lengths), max(lengths)))

    def test_none_with_share_nought_is_drawn_and_shares_come_to_the_mean(self):
        for plan in some_plans():
            for crowd in some_crowds():
                shares = [Fraction(*row[k]) for k, row in enumerate(plan.matrix(crowd))]
                least, most = plan.bounds(crowd)
                self.assertTrue(least <= sum(shares) <= most)
                self.assertLessEqual(most, len([part for part in shares if part]))

    def test_the_kinds_of_what_is_told(self):
        for plan in some_plans():
            for crowd in some_crowds():
                told = plan.matrix(crowd)
                self.assertIsInstance(plan.node(crowd), Node)
                self.assertEqual([type(told)] + [type(row) for row in told], [list] * (len(crowd) + 1))
                self.assertEqual([len(row) for row in told], [len(crowd)] * len(crowd))
                self.assertTrue(all(type(part) is tuple and pair(Fraction(*part)) == part for row in told for part in row))
                bounds = plan.bounds(crowd)
                self.assertEqual([type(bounds), type(bounds[0]), type(bounds[1])], [tuple, int, int])
                self.assertIs(type(plan.text()), str)

    def test_paths_are_never_looked_at(self):
        for plan in some_plans():
            for path in (("a",), ("a", "b", "c"), None):
                bare, other = crowd_by([1, 100, 3, 2, 2]), crowd_by([1, 100, 3, 2, 2], path=path)
                self.assertEqual(plan.matrix(bare), plan.matrix(other))
                self.assertEqual(plan.bounds(bare), plan.bounds(other))
                self.assertEqual(ways(plan.node(bare)), ways(plan.node(other)))

    def test_places_are_told_and_not_where_they_stand(self):
        for plan in some_plans():
            near, far = crowd_by([1, 100, 3, 2, 2]), crowd_by([1, 100, 3, 2, 2], [3, 4, 9, 20, 23])
            self.assertEqual(plan.matrix(near), plan.matrix(far))
            self.assertEqual([(tuple([3, 4, 9, 20, 23][k] for k in kept), part) for kept, part in ways(plan.node(near))],
                             ways(plan.node(far)))

    def test_a_crowd_is_not_changed(self):
        for plan in some_plans():
            for crowd in some_crowds():
                before = copy.deepcopy(crowd)
                node = plan.node(crowd)
                plan.matrix(crowd), plan.bounds(crowd), node.parts()
                with self.assertRaises(NoThrow):
                    node.after(-1)
                self.assertEqual(crowd, before)

    def test_what_is_done_to_the_crowd_behind_the_call_changes_nothing(self):
        for plan in some_plans():
            crowd = crowd_by([1, 100, 3, 2, 2])
            node, matrix = plan.node(crowd), plan.matrix(crowd)
            told, kept = ways(plan.node(crowd)), copy.deepcopy(matrix)
            crowd[0] = (7, 99, ())
            crowd.pop()
            self.assertEqual(ways(node), told)
            crowd.clear()
            self.assertEqual(ways(node), told)
            self.assertEqual(matrix, kept)

    def test_what_is_done_to_what_was_told_changes_nothing(self):
        for plan in some_plans():
            crowd = crowd_by([1, 100, 3, 2, 2])
            node, matrix = plan.node(crowd), plan.matrix(crowd)
            told, kept = ways(node), copy.deepcopy(matrix)
            matrix[0][0] = None
            self.assertEqual(matrix[1:], kept[1:])
            matrix.clear()
            node.parts().clear()
            self.assertEqual(plan.matrix(crowd), kept)
            self.assertEqual(ways(node), told)
            self.assertEqual(ways(plan.node(crowd)), told)


class FewTest(unittest.TestCase):
    """Promise 31."""

    def test_none_are_wanted(self):
        node = Few(0).node(crowd_by([1, 2, 3]))
        self.assertEqual((node.is_told(), node.kept()), (True, ()))

    def test_no_more_than_wanted_are_all_drawn_without_a_throw(self):
        for many, crowd in ((3, crowd_by([1, 2, 3])), (24, crowd_by([5], [9])), (5, crowd_by([1] * 4)),
                            (24, crowd_by([1] * 24))):
            node = Few(many).node(crowd)
            self.assertEqual((node.is_told(), node.kept()), (True, tuple(member[0] for member in crowd)))

    def test_the_dice_one_after_the_other(self):
        node = Few(2).node(crowd_by([9, 1, 1, 5], [2, 3, 5, 8]))
        self.assertEqual([many for many, after in node.parts()], [2, 2])
        self.assertEqual([many for many, after in node.after(1).parts()], [1, 2])
        self.assertEqual([many for many, after in node.after(2).parts()], [2, 1])
        for throws, kept in (([0, 0], (2, 3)), ([1, 1, 0], (2, 5)), ([0, 2, 1], (2, 8)), ([2, 1, 0], (3, 5)),
                             ([3, 0, 1], (3, 8)), ([2, 2], (5, 8))):
            with self.subTest(throws):
                self.assertEqual(drawn(node, throws), kept)

    def test_it_ends_as_soon_as_the_rest_is_known(self):
        node = Few(1).node(crowd_by([1, 1, 1]))
        self.assertIs(node.after(0).is_told(), True)
        node = Few(2).node(crowd_by([1, 1, 1]))
        self.assertEqual(node.after(2).kept(), (1, 2))
        self.assertIs(node.after(1).is_told(), False)

    def test_a_throw_too_few_or_too_many_is_refused(self):
        node = Few(2).node(crowd_by([1, 1, 1]))
        for throws, place in (([], 0), ([0], 1), ([2, 0], 1), ([0, 0, 0], 2), ([3], 0), ([0, 2], 1), ([0, True], 1)):
            with self.subTest(throws):
                with self.assertRaises(NoThrow) as caught:
                    drawn(node, throws)
                self.assertEqual(caught.exception.place, place)

    def test_each_set_is_drawn_in_equally_many_throws(self):
        for there in range(1, 8):
            for many in range(there + 1):
                told = table(Few(many).node(crowd_by([3] * there)))
                self.assertEqual([kept for kept, part in told], list(itertools.combinations(range(there), many)))
                self.assertEqual({part for kept, part in told}, {(1, comb(there, many))})

    def test_the_matrix_and_the_bounds_of_24(self):
        crowd = crowd_by(list(range(1, 25)))
        for many, one, two in ((0, (0, 1), (0, 1)), (1, (1, 24), (0, 1)), (12, (1, 2), (11, 46)), (23, (23, 24), (11, 12)),
                               (24, (1, 1), (1, 1))):
            self.assertEqual(Few(many).matrix(crowd), [[one if k == l else two for l in range(24)] for k in range(24)])
            self.assertEqual(Few(many).bounds(crowd), (many, many))

    def test_the_matrix_and_the_bounds_of_one_and_of_fewer_than_wanted(self):
        self.assertEqual(Few(0).matrix(crowd_by([7])), [[(0, 1)]])
        self.assertEqual(Few(1).matrix(crowd_by([7])), [[(1, 1)]])
        self.assertEqual(Few(24).matrix(crowd_by([7, 8])), [[(1, 1)] * 2] * 2)
        self.assertEqual(Few(24).bounds(crowd_by([7, 8])), (2, 2))

    def test_a_crowd_of_24_is_thrown_for(self):
        node = Few(12).node(crowd_by([1] * 24))
        self.assertEqual(node.sides(), 24)
        self.assertEqual(drawn(node, [0] * 12), tuple(range(12)))
        self.assertEqual(drawn(node, [23 - k for k in range(12)]), tuple(range(12, 24)))


class StartTest(unittest.TestCase):
    """Promise 32."""

    def test_a_step_of_1_draws_all_without_a_throw(self):
        for crowd in some_crowds():
            node = Start(1).node(crowd)
            self.assertEqual((node.is_told(), node.kept()), (True, tuple(member[0] for member in crowd)))
            self.assertEqual(Start(1).bounds(crowd), (len(crowd), len(crowd)))
            self.assertEqual(Start(1).matrix(crowd), [[(1, 1)] * len(crowd)] * len(crowd))

    def test_each_throw_is_a_start(self):
        node = Start(3).node(crowd_by([5, 5, 1, 1, 9, 9, 2], [0, 1, 4, 6, 7, 12, 20]))
        self.assertEqual([drawn(node, [throw]) for throw in range(3)], [(0, 6, 20), (1, 7), (4, 12)])

    def test_each_side_is_a_part_by_itself(self):
        for step in (2, 3, 24, 100):
            for crowd in (crowd_by([5]), crowd_by([1] * 5), crowd_by([1] * 24)):
                node = Start(step).node(crowd)
                self.assertEqual(node.sides(), step)
                self.assertEqual([(many, after.kept()) for many, after in node.parts()],
                                 [(1, tuple(range(first, len(crowd), step))) for first in range(step)])

    def test_a_step_greater_than_the_crowd_may_draw_none(self):
        node = Start(100).node(crowd_by([1, 1], [3, 9]))
        self.assertEqual([drawn(node, [throw]) for throw in (0, 1, 2, 99)], [(3,), (9,), (), ()])
        with self.assertRaises(NoThrow):
            drawn(node, [100])

    def test_the_matrix(self):
        self.assertEqual(Start(2).matrix(crowd_by([1, 2, 3])), [
            [(1, 2), (0, 1), (1, 2)], [(0, 1), (1, 2), (0, 1)], [(1, 2), (0, 1), (1, 2)]])
        self.assertEqual(Start(100).matrix(crowd_by([8])), [[(1, 100)]])
        self.assertEqual(Start(7).matrix(crowd_by([1] * 24)), [
            [(1, 7) if k % 7 == l % 7 else (0, 1) for l in range(24)] for k in range(24)])

    def test_the_bounds(self):
        for there, step, bounds in ((1, 2, (0, 1)), (1, 100, (0, 1)), (2, 2, (1, 1)), (3, 2, (1, 2)), (4, 2, (2, 2)),
                                    (24, 24, (1, 1)), (24, 25, (0, 1)), (24, 23, (1, 2)), (24, 7, (3, 4)),
                                    (24, 5, (4, 5)), (24, 8, (3, 3)), (24, 100, (0, 1))):
            with self.subTest(there=there, step=step):
                self.assertEqual(Start(step).bounds(crowd_by([1] * there)), bounds)


class LooseTest(unittest.TestCase):
    """Promise 34."""

    def test_none_are_wanted(self):
        node = Loose(0).node(crowd_by([1, 2, 3]))
        self.assertEqual((node.is_told(), node.kept()), (True, ()))
        self.assertEqual(Loose(0).bounds(crowd_by([1, 2, 3])), (0, 0))
        self.assertEqual(Loose(0).matrix(crowd_by([1, 2])), [[(0, 1)] * 2] * 2)

    def test_no_more_than_wanted_are_all_drawn_without_a_throw(self):
        for many, crowd in ((3, crowd_by([1, 2, 3])), (24, crowd_by([5], [9])), (5, crowd_by([1] * 4)),
                            (24, crowd_by([1] * 24))):
            node = Loose(many).node(crowd)
            self.assertEqual((node.is_told(), node.kept()), (True, tuple(member[0] for member in crowd)))
            self.assertEqual(Loose(many).bounds(crowd), (len(crowd), len(crowd)))

    def test_the_dice_one_after_the_other(self):
        node = Loose(1).node(crowd_by([1, 2, 3], [4, 6, 7]))
        self.assertEqual([many for many, after in node.parts()], [1, 5])
        for throw in (0, 1):
            second = node.after(throw)
            self.assertEqual([many for many, after in second.parts()], [1, 2])
            self.assertEqual([many for many, after in second.after(2).parts()], [1, 1])
        for throws, kept in (([0, 0, 0], (4, 6, 7)), ([5, 0, 1], (6,)), ([1, 1, 0], (7,)), ([5, 2, 1], ()),
                             ([0, 2, 1], (4,))):
            with self.subTest(throws):
                self.assertEqual(drawn(node, throws), kept)

    def test_those_with_the_share_1_have_no_die(self):
        crowd = crowd_by([1, 100, 1, 2], [3, 5, 8, 9])
        node = Loose(2).node(crowd)
        self.assertEqual([(drawn(node, throws)) for throws in ([0, 0, 0], [3, 3, 1], [1, 0, 1])],
                         [(3, 5, 8, 9), (5,), (5, 8)])
        self.assertEqual([many for many, after in node.parts()], [1, 3])
        self.assertEqual(Loose(2).bounds(crowd), (1, 4))

    def test_the_matrix_has_products(self):
        self.assertEqual(Loose(2).matrix(crowd_by([1, 100, 1, 2])), [
            [(1, 4), (1, 4), (1, 16), (1, 8)], [(1, 4), (1, 1), (1, 4), (1, 2)],
            [(1, 16), (1, 4), (1, 4), (1, 8)], [(1, 8), (1, 2), (1, 8), (1, 2)]])

    def test_each_has_its_wished_share_whatever_becomes_of_the_others(self):
        for crowd in some_crowds():
            for many in (0, 1, 3, 23, 24):
                told = [Fraction(*part) for part in wished([member[1] for member in crowd], many)]
                self.assertEqual(Loose(many).matrix(crowd), [
                    [pair(one if k == l else one * other) for l, other in enumerate(told)] for k, one in enumerate(told)])
                self.assertEqual(Loose(many).bounds(crowd), (told.count(1), len(told) - told.count(0)))

    def test_a_crowd_of_24_is_thrown_for(self):
        sizes = list(range(1, 25))
        node = Loose(12).node(crowd_by(sizes))
        tops = [12 * size for size in sizes]
        self.assertEqual(node.sides(), 25)
        self.assertEqual(sum(sizes), 300)
        shares = [Fraction(top, 300) for top in tops]
        self.assertEqual(drawn(node, [0] * 24), tuple(range(24)))
        self.assertEqual(drawn(node, [part.denominator - 1 for part in shares]), ())
        self.assertEqual(drawn(node, [part.numerator - k % 2 for k, part in enumerate(shares)]), tuple(range(1, 24, 2)))


if __name__ == "__main__":
    unittest.main()
