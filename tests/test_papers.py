import copy
import itertools
import unittest
from fractions import Fraction

from fewspeak.duels import Duel
from fewspeak.errors import NoLevel, NoSpread, NoUnits, SpeakError
from fewspeak.listings import crowd_of, listing_of, values_of
from fewspeak.nested import Each, First
from fewspeak.papers import hidden, unspoken
from fewspeak.plans import Few, Loose, Plan, Start
from fewspeak.sums import chances, spread_by, spread_told
from walks import walk

BARE = listing_of(["ann 5 1 -", "bea -7 2 -", "cleo 0 3 -", "dora 11 1 -"])
GROUPED = listing_of(["ann 5 1 a", "bea -7 2 b", "cleo 3 1 a", "dora 11 1 b", "eve -2 1 a"])
TWICE = listing_of(["ann 5 1 a.x", "bea -7 1 b.x", "cleo 3 1 a.x", "dora 11 1 b.y", "eve -2 1 a.y"])
ALONE = listing_of(["ann 1000000000 1000000 -"])
PAIR = listing_of(["ann -1000000000 1 -", "bea 0 1 -"])
MOST = [("n" + letter, place - 12, place + 1, ("ab"[place % 2],)) for place, letter in enumerate("abcdefghijklmnopqrstuvwx")]

NO_UNITS = (None, 3, True, "ann 5 1 -", (), [], [()], {}, BARE[0], tuple(BARE), BARE[:1] * 2, ["ann 5 1 -"],
            [("Ann", 5, 1, ())], [("ann", 5, 0, ())], [("ann", True, 1, ())], [("ann", 10 ** 9 + 1, 1, ())],
            [("ann", 5, 1, ()), ("bea", 5, 1, ("a",))], MOST + [("ny", 0, 1, ("a",))])


class Among(Plan):
    """Those drawn are drawn by another plan, out of those at some positions alone; the others never are."""

    def __init__(self, inside, positions):
        self.inside = inside
        self.positions = positions

    def some(self, crowd):
        return [member for position, member in enumerate(crowd) if position in self.positions]

    def node(self, crowd):
        return self.inside.node(self.some(crowd))

    def matrix(self, crowd):
        rows = self.inside.matrix(self.some(crowd))
        told = [[(0, 1)] * len(crowd) for member in crowd]
        there = [position for position in range(len(crowd)) if position in self.positions]
        for (k, one), (l, other) in itertools.product(enumerate(there), repeat=2):
            told[one][other] = rows[k][l]
        return told

    def bounds(self, crowd):
        return self.inside.bounds(self.some(crowd))

    def text(self):
        return "among"

    def need_levels(self, levels):
        self.inside.need_levels(levels)


PLANS = {0: (Few(0), Few(1), Few(2), Few(3), Few(24), Start(1), Start(2), Start(3), Start(9), Loose(0), Loose(1), Loose(2),
             Duel(0), Duel(1), Duel(2), Duel(3), Among(Few(1), [1]), Among(Few(2), [0, 2, 3]), Among(Few(1), [1, 3]),
             Among(Loose(1), [0, 2]), Among(Start(2), [1, 2, 3]), Among(Few(1), [])),
         1: (Each(Few(0)), Each(Few(1)), Each(Few(2)), Each(Start(2)), Each(Duel(1)), First(Few(1), Few(2)),
             First(Few(2), Few(1)), First(Duel(1), Start(2)), First(Loose(1), Few(2)), First(Few(0), Few(1)),
             First(Few(1), Few(0)), Each(Among(Few(1), [0])), First(Among(Few(1), [1]), Few(2)),
             First(Few(1), Among(Few(2), [0, 2])), Among(Each(Few(1)), [1, 2, 4])),
         2: (Each(Each(Few(1))), First(Few(1), Each(Few(1))), Each(First(Few(1), Few(2))),
             First(Few(2), First(Among(Few(1), [1]), Few(1))))}


def cases():
    for units in (BARE, GROUPED, TWICE, ALONE, PAIR):
        for levels in range(len(units[0][3]) + 1):
            for plan in PLANS[levels]:
                yield units, plan


def drawn_sets(units, plan):
    """What each way of throws draws."""
    return {kept for throws, kept, part in walk(plan.node(crowd_of(units)))}


class PapersTest(unittest.TestCase):
    def assertRefused(self, kind, ask, *things):
        with self.assertRaises(SpeakError) as caught:
            ask(*things)
        self.assertIs(type(caught.exception), kind)
        return caught.exception


class RefusedTest(PapersTest):
    """Promises 6, 65 and 66: NoUnits, then NoLevel, as 61 tells."""

    def test_listings_that_are_none(self):
        for units in NO_UNITS:
            for ask in (hidden, unspoken):
                with self.subTest(units=repr(units)):
                    self.assertRefused(NoUnits, ask, units, Few(1))
                    self.assertRefused(NoUnits, ask, units, Few(0))

    def test_plans_that_the_paths_dont_bear(self):
        for units, plan in ((BARE, Each(Few(1))), (BARE, First(Few(1), Few(1))), (GROUPED, Each(Each(Few(1)))),
                            (GROUPED, First(Few(0), Each(Few(1)))), (GROUPED, First(Each(Few(1)), Few(1))),
                            (TWICE, Each(Each(Each(Few(0)))))):
            for ask in (hidden, unspoken):
                self.assertRefused(NoLevel, ask, units, plan)

    def test_both_at_once(self):
        for units in NO_UNITS:
            for ask in (hidden, unspoken):
                self.assertRefused(NoUnits, ask, units, Each(Each(Each(Each(Few(0))))))

    def test_what_is_handed_in_stays_behind_a_refusal(self):
        units = copy.deepcopy(BARE)
        wrong = copy.deepcopy(BARE) + [BARE[0]]
        for ask in (hidden, unspoken):
            self.assertRefused(NoLevel, ask, units, Each(Few(1)))
            self.assertRefused(NoUnits, ask, wrong, Few(1))
        self.assertEqual((units, wrong), (BARE, BARE + [BARE[0]]))


class HiddenTest(PapersTest):
    """Promises 8 and 65."""

    def test_by_hand(self):
        for plan in (Few(0), Loose(0), Duel(0), Among(Few(1), []), Among(Few(2), [1, 2, 3])):
            self.assertEqual(hidden(BARE, plan), (0, [5, -7, 0, 11], [6, -7, 0, 11]))
        self.assertEqual(hidden(BARE, Among(Few(2), [0, 1, 2])), (3, [5, -7, 0, 11], [5, -7, 0, 12]))
        self.assertEqual(hidden(BARE, Among(Few(2), [0, 3])), (1, [5, -7, 0, 11], [5, -6, 0, 11]))
        self.assertEqual(hidden(BARE, Among(Loose(1), [0, 1])), (2, [5, -7, 0, 11], [5, -7, 1, 11]))
        self.assertEqual(hidden(GROUPED, First(Among(Few(1), [0]), Few(9))), (1, [5, -7, 3, 11, -2], [5, -6, 3, 11, -2]))
        self.assertEqual(hidden(GROUPED, Each(Few(0))), (0, [5, -7, 3, 11, -2], [6, -7, 3, 11, -2]))

    def test_values_at_their_bounds(self):
        self.assertEqual(hidden(ALONE, Few(0)), (0, [10 ** 9], [10 ** 9 + 1]))
        self.assertEqual(hidden(PAIR, Few(0)), (0, [-10 ** 9, 0], [1 - 10 ** 9, 0]))

    def test_no_share_is_nought(self):
        for units, plan in ((BARE, Few(1)), (BARE, Few(24)), (BARE, Start(100)), (BARE, Loose(1)), (BARE, Duel(1)),
                            (GROUPED, Each(Few(1))), (GROUPED, First(Few(1), Few(1))), (ALONE, Few(1)), (MOST, Loose(1)),
                            (MOST, Each(Duel(2)))):
            self.assertIsNone(hidden(units, plan))

    def test_no_throw_can_tell_the_rows_apart(self):
        found = 0
        for units, plan in cases():
            with self.subTest(units=units, plan=plan.text()):
                kepts = drawn_sets(units, plan)
                never = [place for place in range(len(units)) if not any(place in kept for kept in kepts)]
                told = hidden(units, plan)
                if not never:
                    self.assertIsNone(told)
                    continue
                found += 1
                self.assertEqual([type(told), len(told), type(told[0])], [tuple, 3, int])
                place, values, others = told
                self.assertEqual(place, never[0])
                self.assertEqual((type(values), type(others)), (list, list))
                self.assertEqual(values, values_of(units))
                self.assertEqual([other - value for value, other in zip(values, others, strict=True)],
                                 [int(number == place) for number in range(len(units))])
                for kept in kepts:
                    self.assertEqual([values[number] for number in kept], [others[number] for number in kept])
                self.assertNotEqual(sum(values), sum(others))
        self.assertGreater(found, 20)

    def test_what_was_told_is_the_askers_own(self):
        units = copy.deepcopy(BARE)
        told = hidden(units, Few(0))
        told[1][0] = 77
        self.assertEqual(told[2], [6, -7, 0, 11])
        told[2].clear()
        self.assertEqual(units, BARE)
        self.assertEqual(hidden(units, Few(0)), (0, [5, -7, 0, 11], [6, -7, 0, 11]))

    def test_what_was_handed_in_may_be_changed_later(self):
        units = copy.deepcopy(BARE)
        told = hidden(units, Few(0))
        units[0] = ("zoe", 99, 1, ())
        units.pop()
        self.assertEqual(told, (0, [5, -7, 0, 11], [6, -7, 0, 11]))
        self.assertEqual(hidden(units, Few(0)), (0, [99, -7, 0], [100, -7, 0]))


class UnspokenTest(PapersTest):
    """Promises 8 and 66."""

    def test_by_hand(self):
        rows = [[0, 0, 0, 0], [1, 0, 0, 0], [0, 1, 0, 0], [1, 1, 0, 0]]
        for plan in (Few(1), Start(2), Start(3), Start(100), Duel(1)):
            self.assertEqual(unspoken(BARE, plan), (0, 1, rows))
        self.assertEqual(unspoken(GROUPED, Each(Few(1))),
                         (0, 2, [[0, 0, 0, 0, 0], [1, 0, 0, 0, 0], [0, 0, 1, 0, 0], [1, 0, 1, 0, 0]]))
        self.assertEqual(unspoken(BARE, Among(Few(1), [1, 3])),
                         (1, 3, [[0, 0, 0, 0], [0, 1, 0, 0], [0, 0, 0, 1], [0, 1, 0, 1]]))
        self.assertEqual(unspoken(PAIR, Few(1)), (0, 1, [[0, 0], [1, 0], [0, 1], [1, 1]]))

    def test_the_first_two_of_several(self):
        for units, plan, two in ((GROUPED, First(Few(1), Few(24)), (0, 1)),
                                 (listing_of(["ann 1 1 a", "bea 1 1 a", "cleo 1 1 b", "dora 1 1 c"]),
                                  First(Few(1), Few(24)), (0, 2)),
                                 (listing_of(["ann 1 1 a", "bea 1 1 b", "cleo 1 1 b", "dora 1 1 b"]), Each(Few(1)), (1, 2)),
                                 (listing_of(["ann 1 1 a", "bea 1 1 b", "cleo 1 1 c", "dora 1 1 c", "eve 1 1 b"]),
                                  Each(Few(1)), (1, 4)),
                                 (listing_of(["ann 9 9 -", "bea 1 1 -", "cleo 2 1 -"]), Duel(2), (1, 2)),
                                 (BARE, Among(Start(3), [0, 2, 3]), (0, 2)), (MOST, Each(Few(1)), (0, 2))):
            self.assertEqual(unspoken(units, plan)[:2], two)

    def test_each_two_are_somewhere_drawn_together(self):
        for units, plan in ((BARE, Few(2)), (BARE, Few(24)), (BARE, Start(1)), (BARE, Loose(1)), (GROUPED, Each(Few(2))),
                            (GROUPED, First(Few(2), Few(2))), (ALONE, Few(1)), (ALONE, Start(100)), (MOST, Loose(5))):
            self.assertIsNone(unspoken(units, plan))

    def test_units_that_are_never_drawn_are_no_such_two(self):
        for units, plan in ((BARE, Few(0)), (BARE, Loose(0)), (BARE, Duel(0)), (GROUPED, Each(Few(0))),
                            (GROUPED, First(Few(0), Few(1))), (BARE, Among(Few(2), [0, 2])), (BARE, Among(Few(1), [2]))):
            self.assertIsNone(unspoken(units, plan))

    def test_every_throw_has_one_of_the_two_at_most(self):
        found = 0
        for units, plan in cases():
            with self.subTest(units=units, plan=plan.text()):
                kepts = drawn_sets(units, plan)
                some = sorted({place for kept in kepts for place in kept})
                two = [(one, other) for one, other in itertools.combinations(some, 2)
                       if not any(one in kept and other in kept for kept in kepts)]
                told = unspoken(units, plan)
                if not two:
                    self.assertIsNone(told)
                    continue
                found += 1
                self.assertEqual([type(told), len(told)] + [type(part) for part in told], [tuple, 3, int, int, list])
                self.assertEqual(told[:2], two[0])
                self.assertShown(units, plan, kepts, *told)
        self.assertGreater(found, 20)

    def assertShown(self, units, plan, kepts, one, other, rows):
        wished = [(0, 0), (1, 0), (0, 1), (1, 1)]
        self.assertEqual([(row[one], row[other]) for row in rows], wished)
        for row in rows:
            self.assertEqual([type(row), len(row)], [list, len(units)])
            self.assertEqual([number for place, number in enumerate(row) if place not in (one, other) and number != 0], [])
        for kept in kepts:
            # What is seen of the four rows: the first as often as the second or the third, and so the fourth.
            seen = [[row[place] for place in kept] for row in rows]
            self.assertEqual(sorted([seen[0], seen[3]]), sorted([seen[1], seen[2]]))
        spreads = [Fraction(*spread_by(chances(units, plan), row)) for row in rows]
        self.assertEqual(spreads[0] - spreads[1] - spreads[2] + spreads[3], -2)

    def test_just_where_no_spread_is_told(self):
        for units, plan in cases():
            told = unspoken(units, plan)
            if told is None:
                spread_told(units, plan, [])
            else:
                refused = self.assertRefused(NoSpread, spread_told, units, plan, [])
                self.assertEqual((refused.one, refused.other), told[:2])

    def test_what_was_told_is_the_askers_own(self):
        units = copy.deepcopy(BARE)
        told = unspoken(units, Few(1))
        wished = copy.deepcopy(told)
        told[2][0][0] = 77
        self.assertEqual(told[2][1:], wished[2][1:])
        told[2][3].clear()
        told[2].pop(1)
        self.assertEqual(units, BARE)
        self.assertEqual(unspoken(units, Few(1)), wished)

    def test_what_was_handed_in_may_be_changed_later(self):
        units = copy.deepcopy(BARE)
        told = unspoken(units, Few(1))
        wished = copy.deepcopy(told)
        units.pop()
        self.assertEqual(told, wished)
        self.assertEqual(unspoken(units, Few(1)), (0, 1, [[0, 0, 0], [1, 0, 0], [0, 1, 0], [1, 1, 0]]))


if __name__ == "__main__":
    unittest.main()
