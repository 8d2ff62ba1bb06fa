import copy
import itertools
import random
import unittest
from fractions import Fraction
from math import ceil, floor, lcm

from fewspeak.dice import Node, drawn, matrix_of, table
from fewspeak.duels import Duel, duel_matrix, duels
from fewspeak.plans import Few, Plan, wished
from walks import crowd_by, pair, shape, walk, walked_matrix

HALF, THIRD, QUARTER = (1, 2), (1, 3), (1, 4)
SMALL = ((0, 1), (1, 1), HALF, THIRD, (2, 3), QUARTER, (3, 4))


def reckoned(shares, order):
    """The shape of the duels' node, by the words of 40 and 41, with Fractions."""
    now = [Fraction(*part) for part in shares]
    return reckoned_from(now, None, [place for place in order if 0 < now[place] < 1])


def reckoned_from(now, up, coming):
    if up is None and not coming:
        return tuple(place for place, part in enumerate(now) if part == 1)
    if up is None:
        return reckoned_from(now, coming[0], coming[1:])
    if not coming:
        part = now[up]
        return [(part.numerator, reckoned_from(given(now, {up: 1}), None, [])),
                (part.denominator - part.numerator, reckoned_from(given(now, {up: 0}), None, []))]
    other, coming = coming[0], coming[1:]
    d = lcm(now[up].denominator, now[other].denominator)
    a, b = int(now[up] * d), int(now[other] * d)
    if a + b < d:
        parts = [(a, {up: Fraction(a + b, d), other: 0}), (b, {up: 0, other: Fraction(a + b, d)})]
    else:
        parts = [(d - b, {up: 1, other: Fraction(a + b - d, d)}), (d - a, {up: Fraction(a + b - d, d), other: 1})]
    told = []
    for many, gives in parts:
        after = given(now, gives)
        still = [place for place in (up, other) if 0 < after[place] < 1]
        told.append((many, reckoned_from(after, still[0] if still else None, coming)))
    return told


def given(now, gives):
    return [gives.get(place, part) for place, part in enumerate(now)]


def pair_reckoned(shares, order, one, other):
    """The share in which both are kept, by who is up (one of the two, or any other) and what the two have got."""
    parts = [Fraction(*part) for part in shares]
    sure = tuple(place for place in (one, other) if parts[place] == 1)
    # A state: who is up ("else" for one that is not asked for), what it has, which of the two have the share 1.
    states = {(None, Fraction(0), sure): Fraction(1)}
    for place in order:
        if 0 < parts[place] < 1:
            comes = place if place in (one, other) else "else"
            after = {}
            for (up, has, got), chance in states.items():
                for state, part in duel_states(up, has, got, comes, parts[place]):
                    after[state] = after.get(state, 0) + chance * part
            states = after
    return sum(chance * last_chance(up, has, got, one, other) for (up, has, got), chance in states.items())


def duel_states(up, has, got, comes, part):
    if up is None:
        return [((comes, part, got), Fraction(1))]
    both = has + part
    if both < 1:
        return [((up, both, got), has / both), ((comes, both, got), part / both)]
    left = both - 1
    first = (comes if left else None, left, got + ((up,) if up != "else" else ()))
    second = (up if left else None, left, got + ((comes,) if comes != "else" else ()))
    return [(first, (1 - part) / (2 - both)), (second, (1 - has) / (2 - both))]


def last_chance(up, has, got, one, other):
    lacking = [place for place in (one, other) if place not in got]
    if not lacking:
        return 1
    return has if lacking == [up] * len(lacking) else 0


def random_shares(throws, many, bottom):
    """Shares whose bottoms divide one number, some of them 0 and 1."""
    return [pair(Fraction(throws.randrange(bottom + 1), bottom)) for place in range(many)]


class DuelsTest(unittest.TestCase):
    """Promises 40 and 41."""

    def assertShape(self, shares, order, told):
        self.assertEqual(shape(duels(shares, order)), told)

    def test_all_shares_0_or_1_have_no_die(self):
        for shares, kept in (([(0, 1)], ()), ([(1, 1)], (0,)), ([(1, 1), (0, 1), (1, 1)], (0, 2)), ([(0, 1)] * 24, ()),
                             ([(1, 1)] * 24, tuple(range(24)))):
            for order in (list(range(len(shares))), list(reversed(range(len(shares))))):
                with self.subTest(shares, order=order):
                    self.assertShape(shares, order, kept)

    def test_one_open_share_alone_has_its_own_die(self):
        self.assertShape([(2, 7)], [0], [(2, (0,)), (5, ())])
        self.assertShape([(1, 1), (0, 1), (3, 4)], [1, 2, 0], [(3, (0, 2)), (1, (0,))])

    def test_two_that_come_to_less_than_1(self):
        self.assertShape([THIRD, QUARTER], [0, 1], [(4, [(7, (0,)), (5, ())]), (3, [(7, (1,)), (5, ())])])
        self.assertShape([THIRD, QUARTER], [1, 0], [(3, [(7, (1,)), (5, ())]), (4, [(7, (0,)), (5, ())])])

    def test_the_last_die_has_the_bottom_of_the_share_in_its_least_form(self):
        # 1/6 and 1/3 come to 3/6, which is 1/2.
        self.assertShape([(1, 6), THIRD], [0, 1], [(1, [(1, (0,)), (1, ())]), (2, [(1, (1,)), (1, ())])])

    def test_two_that_come_to_just_1(self):
        self.assertShape([THIRD, (2, 3)], [0, 1], [(1, (0,)), (2, (1,))])
        self.assertShape([THIRD, (2, 3)], [1, 0], [(2, (1,)), (1, (0,))])
        self.assertShape([HALF, HALF], [0, 1], [(1, (0,)), (1, (1,))])

    def test_two_that_come_to_more_than_1(self):
        self.assertShape([(3, 4), (2, 3)], [0, 1], [(4, [(5, (0, 1)), (7, (0,))]), (3, [(5, (0, 1)), (7, (1,))])])
        self.assertShape([(3, 4), (2, 3)], [1, 0], [(3, [(5, (0, 1)), (7, (1,))]), (4, [(5, (0, 1)), (7, (0,))])])

    def test_where_neither_is_open_the_next_one_is_up_without_a_duel(self):
        self.assertShape([THIRD, (2, 3), QUARTER], [0, 1, 2], [
            (1, [(1, (0, 2)), (3, (0,))]), (2, [(1, (1, 2)), (3, (1,))])])
        self.assertShape([HALF, HALF, HALF, HALF], [0, 1, 2, 3], [
            (1, [(1, (0, 2)), (1, (0, 3))]), (1, [(1, (1, 2)), (1, (1, 3))])])

    def test_the_one_that_is_up_is_the_first_of_the_two(self):
        # 1/2 and 1/4: whoever wins has 3/4, and plays as the first one against 2/3.
        self.assertShape([HALF, QUARTER, (2, 3)], [0, 1, 2], [
            (2, [(4, [(5, (0, 2)), (7, (0,))]), (3, [(5, (0, 2)), (7, (2,))])]),
            (1, [(4, [(5, (1, 2)), (7, (1,))]), (3, [(5, (1, 2)), (7, (2,))])])])

    def test_shares_0_and_1_among_open_ones_never_play(self):
        for order in ([0, 1, 2, 3], [1, 3, 0, 2], [2, 1, 0, 3]):
            self.assertShape([(0, 1), THIRD, (0, 1), QUARTER], order, [
                (4, [(7, (1,)), (5, ())]), (3, [(7, (3,)), (5, ())])])
        self.assertShape([(1, 1), THIRD, (0, 1), QUARTER], [0, 1, 2, 3], [
            (4, [(7, (0, 1)), (5, (0,))]), (3, [(7, (0, 3)), (5, (0,))])])
        self.assertShape([(1, 1), THIRD, (0, 1), QUARTER], [3, 2, 1, 0], [
            (3, [(7, (0, 3)), (5, (0,))]), (4, [(7, (0, 1)), (5, (0,))])])

    def test_throws(self):
        node = duels([THIRD, QUARTER, (3, 4)], [2, 0, 1])
        # 9/12 against 4/12: 24 - 13 = 11 sides, 8 for the first one; the other one goes on with 1/12 against 3/12.
        self.assertEqual((node.sides(), [many for many, after in node.parts()]), (11, [8, 3]))
        self.assertEqual([many for many, after in node.after(7).parts()], [1, 3])
        self.assertEqual(drawn(node, [7, 0, 0]), (0, 2))
        self.assertEqual(drawn(node, [7, 0, 1]), (2,))
        self.assertEqual(drawn(node, [7, 3, 0]), (1, 2))
        self.assertEqual(drawn(node, [8, 0, 0]), (0, 2))
        self.assertEqual(drawn(node, [10, 3, 2]), (0,))
        self.assertEqual(drawn(node, [8, 1, 0]), (0, 1))

    def test_every_two_and_three_small_shares_against_the_words(self):
        for many in (1, 2, 3):
            for shares in itertools.product(SMALL, repeat=many):
                for order in itertools.permutations(range(many)):
                    self.assertEqual(shape(duels(list(shares), list(order))), reckoned(shares, order), (shares, order))

    def test_many_shares_and_orders_against_the_words(self):
        throws = random.Random(41)
        for number in range(200):
            shares = random_shares(throws, throws.randrange(1, 9), throws.choice((2, 6, 12, 97, 1000, 10 ** 9)))
            forward = list(range(len(shares)))
            for order in (forward, forward[::-1], throws.sample(forward, len(forward))):
                with self.subTest(shares=shares, order=order):
                    self.assertEqual(shape(duels(shares, order)), reckoned(shares, order))

    def test_great_bottoms(self):
        great = 10 ** 9
        self.assertShape([(1, great), (great - 1, great)], [0, 1], [(1, (0,)), (great - 1, (1,))])
        self.assertShape([(1, great), (1, great)], [0, 1], [
            (1, [(1, (0,)), (great // 2 - 1, ())]), (1, [(1, (1,)), (great // 2 - 1, ())])])
        node = duels([(great - 1, great), (great - 3, great)], [1, 0])
        self.assertEqual((node.sides(), [many for many, after in node.parts()]), (4, [1, 3]))
        last = node.after(0)
        self.assertEqual((last.sides(), drawn(last, [great // 4 - 2]), drawn(last, [great // 4 - 1])),
                         (great // 4, (0, 1), (1,)))
        # No bottom is a multiple of another one.
        node = duels([(1, 999), (1000, 1001), (1, 1000)], [0, 1, 2])
        self.assertEqual(shape(node), reckoned([(1, 999), (1000, 1001), (1, 1000)], [0, 1, 2]))

    def test_24_shares_are_thrown_for(self):
        node = duels([HALF] * 24, list(range(24)))
        self.assertEqual(drawn(node, [0] * 12), tuple(range(0, 24, 2)))
        self.assertEqual(drawn(node, [1] * 12), tuple(range(1, 24, 2)))
        node = duels([(1, 25)] * 24, list(range(24)))
        self.assertEqual(drawn(node, [0] * 24), (0,))
        self.assertEqual(drawn(node, [1] + [0] * 23), (1,))
        self.assertEqual(drawn(node, [0] * 23 + [24]), ())
        self.assertEqual(drawn(node, [step for step in range(1, 24)] + [23]), (23,))
        self.assertEqual(duels([(1, 25)] * 24, list(reversed(range(24)))).after(0).sides(), 3)

    def test_a_node_is_told(self):
        self.assertIsInstance(duels([HALF], [0]), Node)
        self.assertIsInstance(duels([(1, 1)], [0]), Node)

    def test_what_is_handed_in_stays(self):
        shares, order = [THIRD, (1, 1), QUARTER, (3, 4)], [3, 1, 0, 2]
        before = copy.deepcopy((shares, order))
        node = duels(shares, order)
        shape(node), table(node), duel_matrix(shares, order)
        self.assertEqual((shares, order), before)

    def test_lists_changed_behind_the_call(self):
        shares, order = [THIRD, (1, 1), QUARTER, (3, 4)], [3, 1, 0, 2]
        told = shape(duels(list(shares), list(order)))
        node = duels(shares, order)
        shares[0], shares[1] = (1, 1), (0, 1)
        order.reverse()
        self.assertEqual(shape(node), told)
        shares.clear()
        order.clear()
        self.assertEqual(shape(node), told)
        node.parts().clear()
        self.assertEqual(shape(node), told)


class SharesTest(unittest.TestCase):
    """Promises 7, 42 and 43."""

    def test_every_throw_against_shares_number_and_matrix(self):
        for shares in ([HALF, THIRD], [(2, 3), QUARTER, (3, 4)], [THIRD, THIRD, THIRD], [HALF, (0, 1), HALF, HALF, (1, 1)],
                       [QUARTER, HALF, (3, 4), HALF], [(2, 3), (2, 3), (2, 3)], [(1, 6), THIRD, HALF], [(1, 4)] * 4,
                       [(2, 5), (4, 5), (3, 5)], [THIRD, (2, 3), HALF, (1, 1)]):
            whole = sum(Fraction(*part) for part in shares)
            for order in itertools.permutations(range(len(shares))):
                with self.subTest(shares, order=order):
                    places = list(range(len(shares)))
                    node = duels(shares, list(order))
                    walked = list(walk(node))
                    told = duel_matrix(shares, list(order))
                    self.assertEqual(told, walked_matrix(node, places))
                    self.assertEqual([told[place][place] for place in places], shares)
                    self.assertEqual({len(kept) for throws, kept, part in walked}, {floor(whole), ceil(whole)})

    def test_every_way_against_the_matrix(self):
        throws = random.Random(42)
        for number in range(150):
            shares = random_shares(throws, throws.randrange(1, 9), throws.choice((2, 6, 12, 97, 1000, 10 ** 9)))
            places = list(range(len(shares)))
            order = throws.sample(places, len(places))
            whole = sum(Fraction(*part) for part in shares)
            with self.subTest(shares=shares, order=order):
                node = duels(shares, order)
                self.assertEqual(duel_matrix(shares, order), matrix_of(node, places))
                self.assertLessEqual({len(kept) for kept, part in table(node)}, {floor(whole), ceil(whole)})

    def test_the_matrix_by_hand(self):
        self.assertEqual(duel_matrix([(3, 7)], [0]), [[(3, 7)]])
        self.assertEqual(duel_matrix([(0, 1), (1, 1)], [1, 0]), [[(0, 1), (0, 1)], [(0, 1), (1, 1)]])
        self.assertEqual(duel_matrix([THIRD, QUARTER], [0, 1]), [[THIRD, (0, 1)], [(0, 1), QUARTER]])
        self.assertEqual(duel_matrix([(3, 4), (2, 3)], [0, 1]), [[(3, 4), (5, 12)], [(5, 12), (2, 3)]])
        self.assertEqual(duel_matrix([HALF] * 4, [0, 1, 2, 3]), [
            [HALF, (0, 1), QUARTER, QUARTER], [(0, 1), HALF, QUARTER, QUARTER],
            [QUARTER, QUARTER, HALF, (0, 1)], [QUARTER, QUARTER, (0, 1), HALF]])
        self.assertEqual(duel_matrix([HALF] * 4, [0, 2, 1, 3])[0], [HALF, QUARTER, (0, 1), QUARTER])
        self.assertEqual(duel_matrix([(1, 1), HALF, (0, 1)], [0, 1, 2]), [
            [(1, 1), HALF, (0, 1)], [HALF, HALF, (0, 1)], [(0, 1)] * 3])

    def test_the_matrix_of_24_shares(self):
        throws = random.Random(43)
        forward = list(range(24))
        for bottom in (2, 12, 97, 720720, 10 ** 9):
            shares = random_shares(throws, 24, bottom)
            for order in (forward, forward[::-1], throws.sample(forward, 24)):
                told = duel_matrix(shares, order)
                self.assertEqual([told[place][place] for place in forward], shares)
                self.assertEqual([len(row) for row in told], [24] * 24)
                for one, other in itertools.combinations(forward, 2):
                    self.assertEqual(told[one][other], told[other][one])
                for one, other in throws.sample(list(itertools.permutations(forward, 2)), 40):
                    with self.subTest(shares=shares, order=order, one=one, other=other):
                        self.assertEqual(told[one][other], pair(pair_reckoned(shares, order, one, other)))

    def test_rows_of_shares_that_come_to_a_whole_number(self):
        # Where just so many are always kept, a row comes to so many times its own share.
        throws = random.Random(44)
        for many in (1, 5, 12, 23):
            shares = wished([throws.randrange(1, 1000) for place in range(24)], many)
            order = throws.sample(range(24), 24)
            for place, row in enumerate(duel_matrix(shares, order)):
                self.assertEqual(sum(Fraction(*part) for part in row), many * Fraction(*shares[place]))

    def test_all_is_told_anew(self):
        shares, order = [THIRD, (1, 1), QUARTER, (3, 4)], [3, 1, 0, 2]
        told = duel_matrix(shares, order)
        kept = copy.deepcopy(told)
        self.assertEqual([type(told)] + [type(row) for row in told], [list] * 5)
        self.assertTrue(all(pair(Fraction(*part)) == part for row in told for part in row))
        told[0][0] = None
        self.assertEqual(told[1:], kept[1:])
        told.clear()
        self.assertEqual(duel_matrix(shares, order), kept)
        shares[0] = (1, 1)
        self.assertNotEqual(duel_matrix(shares, order), kept)


class DuelTest(unittest.TestCase):
    """Promise 44; what Duel has in common with the plans of stage 3 is asked for in test_plans."""

    def test_none_are_wanted(self):
        crowd = crowd_by([1, 2, 3])
        self.assertEqual(shape(Duel(0).node(crowd)), ())
        self.assertEqual(Duel(0).matrix(crowd), [[(0, 1)] * 3] * 3)
        self.assertEqual(Duel(0).bounds(crowd), (0, 0))

    def test_no_more_than_wanted_are_all_drawn_without_a_throw(self):
        for many, crowd in ((3, crowd_by([1, 2, 3])), (24, crowd_by([5], [9])), (5, crowd_by([1] * 4)), (7, []),
                            (24, crowd_by([1] * 24))):
            self.assertEqual(shape(Duel(many).node(crowd)), tuple(member[0] for member in crowd))
            self.assertEqual(Duel(many).matrix(crowd), [[(1, 1)] * len(crowd)] * len(crowd))
            self.assertEqual(Duel(many).bounds(crowd), (len(crowd), len(crowd)))

    def test_the_duels_are_those_of_the_wished_shares_in_the_order_of_the_crowd(self):
        for many, sizes in ((1, [1, 2, 3]), (2, [4, 3, 2, 1]), (2, [6, 2, 1, 1]), (3, [1, 5, 2, 1, 4]), (4, [1, 2, 3, 4, 5, 6])):
            places = [2, 3, 5, 11, 17, 23][:len(sizes)]
            crowd = crowd_by(sizes, places)
            node = Duel(many).node(crowd)
            by_position = duels(wished(sizes, many), list(range(len(sizes))))
            self.assertEqual(shape(node), self.placed(shape(by_position), places))
            self.assertEqual(Duel(many).matrix(crowd), duel_matrix(wished(sizes, many), list(range(len(sizes)))))
            self.assertEqual(Duel(many).bounds(crowd), (many, many))
            self.assertEqual({len(kept) for kept, part in table(node)}, {many})

    def placed(self, told, places):
        if isinstance(told, tuple):
            return tuple(places[position] for position in told)
        return [(many, self.placed(after, places)) for many, after in told]

    def test_by_hand(self):
        # 1/2, 1/4, 1/4 and the sure one at the place 4.
        crowd = crowd_by([2, 10, 1, 1], [1, 4, 6, 7])
        self.assertEqual(shape(Duel(2).node(crowd)), [
            (2, [(3, (1, 4)), (1, (4, 7))]), (1, [(3, (4, 6)), (1, (4, 7))])])
        self.assertEqual(Duel(2).matrix(crowd), [
            [HALF, HALF, (0, 1), (0, 1)], [HALF, (1, 1), QUARTER, QUARTER],
            [(0, 1), QUARTER, QUARTER, (0, 1)], [(0, 1), QUARTER, (0, 1), QUARTER]])

    def test_the_matrix_of_one_crowd_behind_that_of_another_one(self):
        plan = Duel(2)
        one, other = crowd_by([1, 2, 3, 4]), crowd_by([9, 1, 1, 1, 5], [0, 4, 5, 8, 9])
        first, second = Duel(2).matrix(one), Duel(2).matrix(other)
        self.assertNotEqual(first, second)
        self.assertEqual([plan.matrix(crowd) for crowd in (one, other, [], one, other)], [first, second, [], first, second])

    def test_the_matrix_of_24(self):
        throws = random.Random(45)
        for many in (1, 7, 23):
            sizes = [throws.randrange(1, 24000001) for place in range(24)]
            told = Duel(many).matrix(crowd_by(sizes))
            shares = wished(sizes, many)
            self.assertEqual([told[place][place] for place in range(24)], shares)
            for one, other in throws.sample(list(itertools.permutations(range(24), 2)), 60):
                self.assertEqual(told[one][other], pair(pair_reckoned(shares, list(range(24)), one, other)))

    def test_a_plan_of_its_own(self):
        self.assertTrue(issubclass(Duel, Plan))
        self.assertFalse(issubclass(Duel, Few))
        self.assertEqual(Duel(5).many, 5)


if __name__ == "__main__":
    unittest.main()
