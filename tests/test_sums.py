import copy
import itertools
import random
import unittest
from fractions import Fraction

from fewspeak.duels import Duel
from fewspeak.errors import NoLevel, NoSpread, NoUnits, SpeakError
from fewspeak.listings import crowd_of, listing_of, values_of
from fewspeak.nested import Each, First
from fewspeak.plans import Few, Loose, Start
from fewspeak.plantexts import plan_of
from fewspeak.sums import chances, mean_told, spread, spread_by, spread_told, sum_told, true_sum
from walks import pair, walk

BARE = listing_of(["ann 5 1 -", "bea -7 2 -", "cleo 0 3 -", "dora 11 1 -"])
GROUPED = listing_of(["ann 5 1 a", "bea -7 2 b", "cleo 3 1 a", "dora 11 1 b", "eve -2 1 a"])
TWICE = listing_of(["ann 5 1 a.x", "bea -7 1 b.x", "cleo 3 1 a.x", "dora 11 1 b.y", "eve -2 1 a.y"])
ALONE = listing_of(["ann 1000000000 1000000 -"])
SAME = listing_of(["ann 4 1 -", "bea 4 1 -", "cleo 4 1 -"])

NO_UNITS = (None, 3, "ann 5 1 -", (), [], [()], BARE[0], tuple(BARE), BARE[:1] * 2, [("Ann", 5, 1, ())], [("ann", 5, 0, ())],
            [("ann", 5, 1, ()), ("bea", 5, 1, ("a",))], [("ann", 10 ** 9 + 1, 1, ())], {}, True, ["ann 5 1 -"],
            [("n" + letter, 1, 1, ()) for letter in "abcdefghijklmnopqrstuvwxy"])

PLANS = {0: ("few 0", "few 1", "few 2", "few 3", "few 24", "start 1", "start 2", "start 3", "start 9", "loose 0", "loose 1",
             "loose 2", "loose 3", "duel 0", "duel 1", "duel 2", "duel 3"),
         1: ("each ( few 1 )", "each ( few 2 )", "each ( start 2 )", "each ( duel 1 )", "each ( loose 1 )",
             "first ( few 1 ) then ( few 2 )", "first ( few 2 ) then ( few 1 )", "first ( duel 1 ) then ( start 2 )",
             "first ( loose 1 ) then ( few 2 )", "first ( few 0 ) then ( few 1 )", "first ( loose 1 ) then ( loose 2 )"),
         2: ("each ( each ( few 1 ) )", "first ( few 1 ) then ( each ( few 1 ) )", "each ( first ( few 1 ) then ( few 2 ) )",
             "first ( loose 1 ) then ( first ( few 2 ) then ( few 1 ) )")}


def cases():
    """Listings with plans that they bear, few enough in their throws to walk through all of them."""
    for units in (BARE, GROUPED, TWICE, ALONE, SAME):
        for levels in range(len(units[0][3]) + 1):
            for text in PLANS[levels]:
                yield units, plan_of(text)


def shares_of(units, plan):
    return [Fraction(*row[place]) for place, row in enumerate(plan.matrix(crowd_of(units)))]


def told_sum(units, shares, kept):
    return sum((Fraction(units[place][1]) / shares[place] for place in kept), Fraction(0))


def told_spread(units, rows, kept):
    """The words of 64, with Fractions."""
    whole = Fraction(0)
    for k, l in itertools.product(kept, repeat=2):
        both, one, other = Fraction(*rows[k][l]), Fraction(*rows[k][k]), Fraction(*rows[l][l])
        whole += (both - one * other) / both * Fraction(units[k][1]) / one * Fraction(units[l][1]) / other
    return whole


def mean_square(walked, units, shares):
    """The mean, over all throws, of the square of the difference between the sum told and its mean."""
    sums = [(told_sum(units, shares, kept), part) for throws, kept, part in walked]
    mean = sum(told * part for told, part in sums)
    return sum((told - mean) ** 2 * part for told, part in sums)


def apart(rows):
    """The first two of shares above nought that are never drawn together, or None."""
    for one, other in itertools.combinations(range(len(rows)), 2):
        if rows[one][one] != (0, 1) and rows[other][other] != (0, 1) and rows[one][other] == (0, 1):
            return (one, other)
    return None


class SumsTest(unittest.TestCase):
    def assertFraction(self, thing):
        self.assertEqual([type(thing), type(thing[0]), type(thing[1])], [tuple, int, int])
        self.assertEqual(pair(Fraction(*thing)), thing)

    def assertRefused(self, kind, ask, *things):
        with self.assertRaises(SpeakError) as caught:
            ask(*things)
        self.assertIs(type(caught.exception), kind)
        return caught.exception


class RefusedTest(SumsTest):
    """Promises 6, 61, 62, 63 and 64: what is refused, and which refusal goes first."""

    def ask_all(self, units, plan):
        yield lambda: chances(units, plan)
        yield lambda: mean_told(units, plan)
        yield lambda: sum_told(units, plan, [])
        yield lambda: sum_told(units, plan, (0,))
        yield lambda: spread(units, plan)
        yield lambda: spread_told(units, plan, [])
        yield lambda: spread_told(units, plan, (0,))

    def test_listings_that_are_none(self):
        for units in NO_UNITS:
            with self.subTest(repr(units)):
                self.assertRefused(NoUnits, true_sum, units)
                for ask in self.ask_all(units, Few(2)):
                    self.assertRefused(NoUnits, ask)

    def test_plans_that_the_paths_dont_bear(self):
        for units, plan in ((BARE, Each(Few(1))), (BARE, First(Few(1), Few(1))), (GROUPED, Each(Each(Few(1)))),
                            (GROUPED, First(Few(0), Each(Few(1)))), (GROUPED, First(Each(Few(1)), Few(1))),
                            (TWICE, Each(Each(Each(Few(1))))), (TWICE, First(First(Few(1), Few(1)), Few(1)))):
            for ask in self.ask_all(units, plan):
                self.assertRefused(NoLevel, ask)

    def test_the_plan_is_asked_whether_the_paths_bear_it(self):
        for units, levels in ((BARE, 0), (GROUPED, 1), (TWICE, 2), (listing_of(["ann 1 1 a.b.c", "bea 2 1 a.b.d"]), 3)):
            for ask in self.ask_all(units, NeedsNames(levels + 1)):
                self.assertRefused(NoLevel, ask)
            self.assertEqual(chances(units, NeedsNames(levels)), chances(units, Few(1)))

    def test_a_listing_that_is_none_goes_first(self):
        for units in NO_UNITS:
            for ask in self.ask_all(units, Each(First(Each(Few(1)), Few(1)))):
                self.assertRefused(NoUnits, ask)

    def test_no_spread_goes_last(self):
        refused = self.assertRefused(NoSpread, spread_told, GROUPED, Few(1), [0])
        self.assertEqual((refused.one, refused.other), (0, 1))
        # Each two groups' members are drawn together, but never two of one group; without names there are no groups.
        self.assertRefused(NoSpread, spread_told, GROUPED, Each(Few(1)), [0])
        self.assertRefused(NoLevel, spread_told, BARE, Each(Few(1)), [0])
        self.assertRefused(NoUnits, spread_told, [], Few(1), [0])

    def test_what_is_handed_in_stays_behind_a_refusal(self):
        units = copy.deepcopy(GROUPED) + [GROUPED[0]]
        before, kept = copy.deepcopy(units), [0, 1]
        for plan in (Few(2), Each(Each(Few(1)))):
            self.assertRefused(NoUnits, spread_told, units, plan, kept)
            self.assertRefused(NoUnits, chances, units, plan)
        self.assertEqual((units, kept), (before, [0, 1]))
        units.pop()
        self.assertRefused(NoLevel, spread_told, units, Each(Each(Few(1))), kept)
        self.assertRefused(NoSpread, spread_told, units, Few(1), kept)
        self.assertEqual((units, kept), (GROUPED, [0, 1]))


class ChancesTest(SumsTest):
    """Promise 61."""

    def test_the_matrix_of_the_crowd(self):
        for units, plan in cases():
            self.assertEqual(chances(units, plan), plan.matrix(crowd_of(units)))

    def test_by_hand(self):
        self.assertEqual(chances(SAME, Few(2)), [[(2, 3) if k == l else (1, 3) for l in range(3)] for k in range(3)])
        self.assertEqual(chances(ALONE, Start(100)), [[(1, 100)]])
        self.assertEqual(chances(GROUPED, First(Duel(1), Few(24)))[0], [(1, 2), (0, 1), (1, 2), (0, 1), (1, 2)])

    def test_what_was_told_is_the_askers_own(self):
        told = chances(GROUPED, Each(Few(1)))
        kept = copy.deepcopy(told)
        told[0][0] = None
        self.assertEqual(told[1:], kept[1:])
        told.clear()
        self.assertEqual(chances(GROUPED, Each(Few(1))), kept)


class ToldSumsTest(SumsTest):
    """Promises 8 and 62."""

    def test_the_true_sum(self):
        self.assertEqual([true_sum(units) for units in (BARE, GROUPED, ALONE, SAME)], [9, 10, 10 ** 9, 12])
        most = [("n" + letter, -10 ** 9, 1, ()) for letter in "abcdefghijklmnopqrstuvwx"]
        self.assertEqual(true_sum(most), -24 * 10 ** 9)
        self.assertIs(type(true_sum(BARE)), int)

    def test_the_sum_told_by_hand(self):
        self.assertEqual(sum_told(SAME, Few(2), [0, 2]), (12, 1))
        self.assertEqual(sum_told(SAME, Few(2), [1]), (6, 1))
        self.assertEqual(sum_told(BARE, Few(3), [0, 1, 3]), (12, 1))
        self.assertEqual(sum_told(BARE, Few(3), [0]), (20, 3))
        # 1/7 of the throws have ann, 2/7 bea.
        self.assertEqual(sum_told(BARE, Loose(1), [0, 1]), (21, 2))
        self.assertEqual(sum_told(ALONE, Start(100), [0]), (10 ** 11, 1))

    def test_none_are_drawn(self):
        for kept in ([], ()):
            for units, plan in cases():
                self.assertEqual(sum_told(units, plan, kept), (0, 1))

    def test_a_list_or_a_tuple_in_any_order(self):
        for kept in itertools.permutations((0, 1, 3)):
            self.assertEqual(sum_told(BARE, Loose(2), list(kept)), sum_told(BARE, Loose(2), [0, 1, 3]))
            self.assertEqual(sum_told(BARE, Loose(2), kept), sum_told(BARE, Loose(2), [0, 1, 3]))

    def test_every_throw_against_the_mean_told(self):
        for units, plan in cases():
            with self.subTest(units=units, plan=plan.text()):
                shares = shares_of(units, plan)
                mean = Fraction(0)
                for throws, kept, part in walk(plan.node(crowd_of(units))):
                    told = sum_told(units, plan, kept)
                    self.assertFraction(told)
                    self.assertEqual(Fraction(*told), told_sum(units, shares, kept))
                    mean += part * Fraction(*told)
                self.assertEqual(mean_told(units, plan), mean)
                self.assertIs(type(mean_told(units, plan)), int)
                if all(shares):
                    self.assertEqual(mean_told(units, plan), true_sum(units))

    def test_units_with_share_nought_are_left_out_of_the_mean_told(self):
        for plan in (Few(0), Loose(0), Duel(0), First(Few(0), Few(3))):
            self.assertEqual(mean_told(GROUPED, plan), 0)
        self.assertEqual(mean_told(GROUPED, Each(Few(0))), 0)
        for plan in (Few(1), Start(100), Loose(1), Duel(1)):
            self.assertEqual(mean_told(GROUPED, plan), 10)

    def test_some_units_with_share_nought(self):
        # A plan of one's own: the first and the third unit, each in half of all throws, the others never.
        rows = [[(1, 2), (0, 1), (0, 1)], [(0, 1)] * 3, [(0, 1), (0, 1), (1, 2)]]
        plan = PlanBy(rows)
        units = listing_of(["ann 5 1 -", "bea 70 1 -", "cleo -9 1 -"])
        self.assertEqual((mean_told(units, plan), true_sum(units)), (-4, 66))
        self.assertEqual(sum_told(units, plan, [2]), (-18, 1))
        # Either 10 or -18, the mean being -4.
        self.assertEqual(spread(units, plan), (196, 1))
        refused = self.assertRefused(NoSpread, spread_told, units, plan, [0])
        self.assertEqual((refused.one, refused.other), (0, 2))
        rows[0][2] = rows[2][0] = (1, 4)
        self.assertEqual(spread_told(units, plan, [0, 2]), pair(told_spread(units, rows, [0, 2])))
        self.assertEqual(spread_told(units, plan, [0]), (50, 1))


class NeedsNames(Few):
    """A plan that asks for so many names, though it never looks at a path."""

    def __init__(self, least):
        Few.__init__(self, 1)
        self.least = least

    def need_levels(self, levels):
        if levels < self.least:
            raise NoLevel()


class PlanBy(Few):
    """A plan whose matrix is told by hand."""

    def __init__(self, rows):
        Few.__init__(self, 1)
        self.rows = rows

    def matrix(self, crowd):
        return copy.deepcopy(self.rows)


class SpreadTest(SumsTest):
    """Promises 8 and 63."""

    def test_every_throw_against_the_spread(self):
        for units, plan in cases():
            with self.subTest(units=units, plan=plan.text()):
                walked = list(walk(plan.node(crowd_of(units))))
                told = spread(units, plan)
                self.assertFraction(told)
                self.assertEqual(Fraction(*told), mean_square(walked, units, shares_of(units, plan)))
                self.assertGreaterEqual(told[0], 0)
                self.assertEqual(spread_by(chances(units, plan), values_of(units)), told)

    def test_by_hand(self):
        self.assertEqual(spread(SAME, Few(1)), (0, 1))
        self.assertEqual(spread(SAME, Few(24)), (0, 1))
        self.assertEqual(spread(SAME, Few(0)), (0, 1))
        # 100 or 0, in 1/100 and in 99/100 of all throws.
        self.assertEqual(spread(listing_of(["ann 1 1 -"]), Start(100)), (99, 1))
        self.assertEqual(spread(listing_of(["ann 1 1 -", "bea -1 1 -"]), Few(1)), (4, 1))
        self.assertEqual(spread(listing_of(["ann 1 1 -", "bea 2 1 -"]), Few(1)), (1, 1))

    def test_other_values(self):
        throws = random.Random(63)
        for units, plan in cases():
            rows = chances(units, plan)
            values = [throws.randrange(-50, 50) for unit in units]
            other = [(unit[0], value) + unit[2:] for unit, value in zip(units, values, strict=True)]
            self.assertEqual(spread_by(rows, values), spread(other, plan))
            self.assertFraction(spread_by(rows, values))
        self.assertEqual(spread_by([[(1, 2), (0, 1)], [(0, 1), (1, 2)]], [10 ** 12, -10 ** 12]), (4 * 10 ** 24, 1))
        self.assertEqual(spread_by([[(0, 1)]], [7]), (0, 1))
        self.assertEqual(spread_by([[(1, 1)]], [7]), (0, 1))
        self.assertEqual(spread_by([], []), (0, 1))

    def test_what_is_handed_in_stays(self):
        rows, values = chances(GROUPED, Each(Duel(1))), values_of(GROUPED)
        before = copy.deepcopy((rows, values))
        told = spread_by(rows, values)
        self.assertEqual((rows, values), before)
        self.assertEqual(spread_by(rows, values), told)

    def test_24_units_are_never_below_nought(self):
        throws = random.Random(64)
        units = [("n" + letter, throws.randrange(-10 ** 9, 10 ** 9 + 1), throws.randrange(1, 10 ** 6 + 1),
                  (throws.choice("abc"), throws.choice("xy"))) for letter in "abcdefghijklmnopqrstuvwx"]
        for text in ("few 7", "start 7", "loose 9", "duel 9", "each ( duel 3 )", "first ( duel 2 ) then ( duel 3 )",
                     "first ( few 2 ) then ( each ( duel 2 ) )", "each ( each ( loose 2 ) )"):
            told = spread(units, plan_of(text))
            self.assertFraction(told)
            self.assertGreaterEqual(told[0], 0)


class SpreadToldTest(SumsTest):
    """Promises 8 and 64."""

    def test_every_throw_against_the_spread(self):
        told_cases = 0
        for units, plan in cases():
            rows = chances(units, plan)
            node = plan.node(crowd_of(units))
            two = apart(rows)
            with self.subTest(units=units, plan=plan.text()):
                if two:
                    for throws, kept, part in walk(node):
                        refused = self.assertRefused(NoSpread, spread_told, units, plan, kept)
                        self.assertEqual((refused.one, refused.other), two)
                    continue
                told_cases += 1
                mean = Fraction(0)
                for throws, kept, part in walk(node):
                    told = spread_told(units, plan, kept)
                    self.assertFraction(told)
                    self.assertEqual(Fraction(*told), told_spread(units, rows, kept))
                    mean += part * Fraction(*told)
                self.assertEqual(pair(mean), spread(units, plan))
        self.assertGreater(told_cases, 30)

    def test_by_hand(self):
        units = listing_of(["ann 1 1 -", "bea 2 1 -", "cleo 4 1 -"])
        # Shares 2/3, both 1/3: (1/3 - 4/9) / (1/3) is -1/3, (2/3 - 4/9) / (2/3) is 1/3.
        self.assertEqual(spread_told(units, Few(2), [0, 1]), (3, 4))
        self.assertEqual(spread_told(units, Few(2), [0, 2]), (27, 4))
        self.assertEqual(spread_told(units, Few(2), [1, 2]), (3, 1))
        self.assertEqual(spread(units, Few(2)), (7, 2))
        self.assertEqual(spread_told(units, Few(3), [0, 1, 2]), (0, 1))

    def test_it_may_be_below_nought(self):
        units = listing_of(["ann 3 3 -", "bea 7 1 -", "cleo 6 1 -", "dora -3 2 -", "eve 6 3 -"])
        told = spread_told(units, Duel(3), [1, 2, 3])
        self.assertEqual(told, pair(told_spread(units, chances(units, Duel(3)), [1, 2, 3])))
        self.assertEqual(told, (-8620, 99))

    def test_a_list_or_a_tuple_in_any_order_and_none(self):
        wanted = spread_told(BARE, Loose(2), [0, 1, 3])
        for kept in itertools.permutations((0, 1, 3)):
            self.assertEqual(spread_told(BARE, Loose(2), list(kept)), wanted)
            self.assertEqual(spread_told(BARE, Loose(2), kept), wanted)
        self.assertEqual(spread_told(BARE, Loose(2), []), (0, 1))
        self.assertEqual(spread_told(BARE, Loose(2), ()), (0, 1))

    def test_two_that_are_never_drawn_together_whoever_was_drawn(self):
        for kept in ([], [0], [1], [2], [1, 3], (0, 2), [0, 1, 2, 3]):
            refused = self.assertRefused(NoSpread, spread_told, BARE, Start(2), kept)
            self.assertEqual((refused.one, refused.other), (0, 1))
            self.assertEqual([type(refused.one), type(refused.other)], [int, int])

    def test_the_first_two_of_several(self):
        for units, plan, two in ((BARE, Few(1), (0, 1)), (BARE, Start(3), (0, 1)), (GROUPED, Each(Few(1)), (0, 2)),
                                 (GROUPED, First(Few(1), Few(24)), (0, 1)),
                                 (listing_of(["ann 1 1 a", "bea 1 1 b", "cleo 1 1 b", "dora 1 1 b"]), Each(Few(1)), (1, 2)),
                                 (listing_of(["ann 1 1 a", "bea 1 1 b", "cleo 1 1 c", "dora 1 1 b", "eve 1 1 c"]),
                                  Each(Few(1)), (1, 3)),
                                 (listing_of(["ann 9 9 -", "bea 1 1 -", "cleo 2 1 -"]), Duel(2), (1, 2))):
            refused = self.assertRefused(NoSpread, spread_told, units, plan, [0])
            self.assertEqual((refused.one, refused.other), two)

    def test_units_with_share_nought_are_no_such_two(self):
        for plan in (Few(0), Loose(0), Duel(0), First(Few(0), Few(3)), Each(Few(0))):
            self.assertEqual(spread_told(GROUPED, plan, []), (0, 1))

    def test_what_is_handed_in_stays(self):
        units, kept = copy.deepcopy(GROUPED), [3, 0, 1]
        plan = Each(Few(2))
        told = (spread_told(units, plan, kept), sum_told(units, plan, kept), spread(units, plan), mean_told(units, plan))
        self.assertEqual((units, kept, plan.text()), (GROUPED, [3, 0, 1], "each ( few 2 )"))
        self.assertEqual((spread_told(units, plan, kept), sum_told(units, plan, kept), spread(units, plan),
                          mean_told(units, plan)), told)
        true_sum(units)
        self.assertEqual(units, GROUPED)


if __name__ == "__main__":
    unittest.main()
