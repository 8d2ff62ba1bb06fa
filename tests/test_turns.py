import itertools
import random
import unittest
from fractions import Fraction

from fewspeak.dice import Node, drawn, matrix_of, table
from fewspeak.errors import NoThrow, NoTurn, SpeakError
from fewspeak.turns import Turn, alongside, away, counts, overlap, panel, picked, spun, stays
from walks import NO_WHOLE_NUMBERS, pair, shape

CIRCLE = range(1000)
EDGES = (0, 1, 2, 499, 500, 501, 998, 999)
STARTS = (0, 1, 250, 499, 500, 998, 999)
MANYS = (0, 1, 2, 250, 499, 500, 501, 750, 998, 999, 1000)
TURNS = [Turn(start, many) for start in STARTS for many in MANYS]

NO_NUMBERS = NO_WHOLE_NUMBERS + (-1, -1000, 1000, 1001, 10 ** 20, -10 ** 20)
NO_MANYS = NO_WHOLE_NUMBERS + (-1, -1000, 1001, 10 ** 20, -10 ** 20)
NO_LISTS = (None, True, 0, 1, "", "01", (), (1, 2), {}, {1: 2}, {1, 2}, range(3), iter([1]), object(), 1.5, b"", list)


def inside(turn):
    """The numbers in a turn, one by one from its start on."""
    return {(turn.start + step) % 1000 for step in range(turn.many)}


def told(turn):
    return (turn.start, turn.many)


def some_turns(throws, count):
    return [Turn(throws.randrange(1000), throws.choice((throws.randrange(1001), throws.randrange(20), 0, 1, 999, 1000)))
            for place in range(count)]


def turn_lists():
    """Lists of turns: none, one, several alike, 24, turns of 0 and of 1000 numbers, round the end and not."""
    throws = random.Random(74)
    yield []
    yield from ([Turn(start, many)] for start in STARTS for many in MANYS)
    yield [Turn(990, 20)] * 3
    yield [Turn(990, 20), Turn(990, 20), Turn(990, 20)]
    yield [Turn(0, 0), Turn(0, 1000), Turn(7, 0), Turn(7, 1000)]
    yield [Turn(0, 500), Turn(500, 500)]
    yield [Turn(0, 400), Turn(400, 300), Turn(700, 300)]
    yield [Turn(100, 100), Turn(100, 100), Turn(200, 100)]
    yield [Turn(999, 2), Turn(0, 1), Turn(999, 1), Turn(500, 1)]
    yield [Turn(number * 40, 45) for number in range(24)]
    yield [Turn(number, 1) for number in range(24)]
    yield from (some_turns(throws, count) for count in (2, 3, 5, 9, 24, 24))


class TurnsTest(unittest.TestCase):
    def assertRefused(self, ask, *things):
        with self.assertRaises(SpeakError) as caught:
            ask(*things)
        self.assertIs(type(caught.exception), NoTurn)

    def assertPlaces(self, thing, places):
        self.assertEqual(thing, places)
        self.assertEqual([type(thing)] + [type(place) for place in thing], [list] + [int] * len(places))


class TurnTest(TurnsTest):
    """Promises 2, 5, 6 and 71."""

    def test_values(self):
        for start, many in itertools.product(STARTS, MANYS):
            self.assertEqual(told(Turn(start, many)), (start, many))

    def test_no_start_or_no_many(self):
        for thing in NO_NUMBERS:
            self.assertRefused(Turn, thing, 5)
            self.assertRefused(Turn, thing, 0)
        for thing in NO_MANYS:
            self.assertRefused(Turn, 0, thing)
            self.assertRefused(Turn, 999, thing)
        self.assertRefused(Turn, None, None)

    def test_has_against_each_number(self):
        for turn in TURNS:
            numbers = inside(turn)
            self.assertEqual(len(numbers), turn.many)
            self.assertEqual([turn.has(number) for number in CIRCLE], [number in numbers for number in CIRCLE])

    def test_has_by_hand(self):
        turn = Turn(998, 4)
        self.assertEqual([number for number in CIRCLE if turn.has(number)], [0, 1, 998, 999])
        self.assertIs(turn.has(0), True)
        self.assertIs(turn.has(2), False)
        self.assertIs(turn.has(997), False)
        self.assertFalse(Turn(5, 0).has(5))
        self.assertTrue(Turn(5, 1).has(5))
        self.assertFalse(Turn(5, 1).has(6))
        self.assertFalse(Turn(5, 999).has(4))
        self.assertTrue(Turn(5, 1000).has(4))

    def test_has_is_asked_of_no_number(self):
        for turn in (Turn(0, 0), Turn(5, 20), Turn(0, 1000), Turn(999, 1000)):
            for thing in NO_NUMBERS:
                self.assertRefused(turn.has, thing)

    def test_members(self):
        turn = Turn(998, 4)
        self.assertPlaces(turn.members([]), [])
        self.assertPlaces(turn.members([997, 998, 999, 0, 1, 2]), [1, 2, 3, 4])
        self.assertPlaces(turn.members([0, 500, 0, 500, 0]), [0, 2, 4])
        self.assertPlaces(turn.members([500] * 24), [])
        self.assertPlaces(turn.members([0] * 24), list(range(24)))
        self.assertPlaces(Turn(0, 0).members([0, 999]), [])
        self.assertPlaces(Turn(7, 1000).members([0, 999]), [0, 1])

    def test_members_against_has(self):
        throws = random.Random(71)
        for turn in TURNS:
            numbers = [throws.choice((throws.randrange(1000), turn.start, 0, 999)) for place in range(throws.randrange(25))]
            self.assertPlaces(turn.members(numbers), [place for place in range(len(numbers)) if turn.has(numbers[place])])

    def test_members_of_no_list_of_numbers(self):
        for turn in (Turn(0, 0), Turn(5, 20), Turn(0, 1000)):
            for thing in NO_LISTS:
                self.assertRefused(turn.members, thing)
            self.assertRefused(turn.members, [0] * 25)
            self.assertRefused(turn.members, [None] * 10 ** 5)
            for thing in NO_NUMBERS:
                self.assertRefused(turn.members, [thing])
                self.assertRefused(turn.members, [thing, 5])
                self.assertRefused(turn.members, [5, 5, thing])

    def test_moved(self):
        for turn in TURNS:
            for by in (0, 1, 2, 500, 999, 1000, 1001, 123456789, 10 ** 30, -1, -2, -999, -1000, -1001, -10 ** 30 - 7):
                moved = turn.moved(by)
                self.assertIsInstance(moved, Turn)
                self.assertEqual(told(moved), ((turn.start + by) % 1000, turn.many))
        self.assertEqual([told(Turn(990, 20).moved(by)) for by in (0, 1000, 15, 9, 10, -990, -991, 3007)],
                         [(990, 20), (990, 20), (5, 20), (999, 20), (0, 20), (0, 20), (999, 20), (997, 20)])

    def test_a_moved_turn_has_the_moved_numbers(self):
        for start, many, by in ((990, 20, 15), (0, 1, -1), (5, 999, 7), (3, 0, 4), (3, 1000, 4)):
            turn = Turn(start, many)
            self.assertEqual({(number + by) % 1000 for number in inside(turn)},
                             {number for number in CIRCLE if turn.moved(by).has(number)})

    def test_what_is_asked_changes_nothing(self):
        turn, numbers = Turn(990, 20), [0, 5, 995, 10, 5]
        turn.moved(3).moved(-500)
        places = turn.members(numbers)
        self.assertEqual((told(turn), numbers), ((990, 20), [0, 5, 995, 10, 5]))
        places.append(77)
        numbers[3] = 9
        self.assertPlaces(turn.members(numbers), [0, 1, 2, 3, 4])
        self.assertEqual(places, [0, 1, 2, 4, 77])
        wrong = [0, 1000, "a"]
        self.assertRefused(turn.members, wrong)
        self.assertRefused(turn.has, 1000)
        self.assertEqual((told(turn), wrong), ((990, 20), [0, 1000, "a"]))

    def test_two_turns_have_nothing_in_common(self):
        one, other = Turn(0, 10), Turn(500, 10)
        self.assertEqual((told(one), told(other)), ((0, 10), (500, 10)))
        self.assertIsNot(one.moved(0), one)


class OverlapTest(TurnsTest):
    """Promises 9, 72 and 73."""

    def test_number_by_number(self):
        numbers = [inside(turn) for turn in TURNS]
        for (one, its), (other, others) in itertools.product(zip(TURNS, numbers), repeat=2):
            self.assertEqual(overlap(one, other), len(its & others), (told(one), told(other)))

    def test_number_by_number_anywhere(self):
        throws = random.Random(72)
        for one, other in zip(some_turns(throws, 500), some_turns(throws, 500)):
            self.assertEqual(overlap(one, other), len(inside(one) & inside(other)), (told(one), told(other)))

    def test_by_hand(self):
        for one, other, many in (((0, 10), (20, 10), 0), ((0, 10), (10, 10), 0), ((10, 10), (0, 10), 0),
                                 ((0, 10), (9, 10), 1), ((990, 20), (5, 10), 5), ((0, 600), (500, 600), 200),
                                 ((0, 100), (20, 30), 30), ((20, 30), (0, 100), 30), ((900, 200), (950, 100), 100),
                                 ((0, 0), (0, 1000), 0), ((0, 1000), (7, 1000), 1000), ((5, 1000), (999, 3), 3),
                                 ((0, 999), (1, 999), 998), ((999, 1), (0, 1), 0), ((999, 1), (999, 1), 1)):
            self.assertEqual(overlap(Turn(*one), Turn(*other)), many)
            self.assertEqual(overlap(Turn(*other), Turn(*one)), many)
            self.assertIs(type(overlap(Turn(*one), Turn(*other))), int)

    def test_as_many_and_as_few_as_can_be(self):
        for turn in (Turn(0, 0), Turn(7, 1), Turn(999, 300), Turn(500, 500), Turn(3, 999), Turn(3, 1000), Turn(700, 650)):
            its = inside(turn)
            for many in range(1001):
                near, far = alongside(turn, many), away(turn, many)
                self.assertEqual((near.many, far.many), (many, many))
                self.assertEqual(overlap(turn, near), min(turn.many, many))
                self.assertEqual(overlap(turn, far), max(turn.many + many - 1000, 0))
                if many % 37 == 0:
                    self.assertEqual(len(its & inside(near)), min(turn.many, many))
                    self.assertEqual(len(its & inside(far)), max(turn.many + many - 1000, 0))

    def test_every_start_and_many(self):
        for turn in TURNS:
            for many in MANYS:
                near, far = alongside(turn, many), away(turn, many)
                self.assertIsInstance(near, Turn)
                self.assertIsInstance(far, Turn)
                self.assertEqual(len(inside(turn) & inside(near)), min(turn.many, many))
                self.assertEqual(len(inside(turn) & inside(far)), max(turn.many + many - 1000, 0))

    def test_no_turn_of_that_many_has_more_or_fewer(self):
        for turn in (Turn(0, 0), Turn(998, 5), Turn(100, 600), Turn(3, 1000)):
            for many in (0, 1, 4, 5, 6, 400, 401, 600, 999, 1000):
                overlaps = [overlap(turn, Turn(start, many)) for start in CIRCLE]
                self.assertEqual(overlap(turn, alongside(turn, many)), max(overlaps))
                self.assertEqual(overlap(turn, away(turn, many)), min(overlaps))

    def test_what_is_no_many(self):
        for turn in (Turn(0, 0), Turn(990, 20), Turn(5, 1000)):
            for thing in NO_MANYS:
                self.assertRefused(alongside, turn, thing)
                self.assertRefused(away, turn, thing)
            self.assertEqual(told(turn), told(Turn(turn.start, turn.many)))

    def test_the_turn_stays(self):
        turn = Turn(990, 20)
        for near in (alongside(turn, 20), away(turn, 20)):
            self.assertIsNot(near, turn)
        overlap(turn, Turn(0, 5))
        self.assertEqual(told(turn), (990, 20))


class PanelTest(TurnsTest):
    """Promise 74."""

    def test_panels(self):
        self.assertEqual(panel(10, 5, 0), [])
        self.assertEqual([told(turn) for turn in panel(10, 5, 3)], [(0, 10), (5, 10), (10, 10)])
        self.assertEqual([told(turn) for turn in panel(0, 0, 2)], [(0, 0), (0, 0)])
        self.assertEqual([told(turn) for turn in panel(1000, 999, 4)], [(0, 1000), (999, 1000), (998, 1000), (997, 1000)])
        self.assertEqual([told(turn) for turn in panel(1, 400, 6)], [(0, 1), (400, 1), (800, 1), (200, 1), (600, 1), (0, 1)])

    def test_each_is_moved_from_the_one_ahead(self):
        for many, by, count in itertools.product((0, 1, 500, 1000), (0, 1, 41, 500, 999), (0, 1, 2, 23, 24)):
            turns = panel(many, by, count)
            self.assertEqual([type(turns), len(turns)], [list, count])
            self.assertEqual([turn.many for turn in turns], [many] * count)
            self.assertEqual([turn.start for turn in turns[:1]], [0] * min(count, 1))
            for ahead, turn in itertools.pairwise(turns):
                self.assertIsInstance(turn, Turn)
                self.assertEqual(told(turn), told(ahead.moved(by)))

    def test_what_is_no_panel(self):
        for count in (0, 1, 5, 24):
            for thing in NO_MANYS:
                self.assertRefused(panel, thing, 5, count)
            for thing in NO_NUMBERS:
                self.assertRefused(panel, 10, thing, count)
        for thing in NO_WHOLE_NUMBERS + (-1, 25, 1000, 10 ** 20):
            self.assertRefused(panel, 10, 5, thing)
            self.assertRefused(panel, 0, 0, thing)

    def test_a_panel_is_the_askers_own(self):
        turns = panel(10, 5, 3)
        turns.pop()
        self.assertEqual([told(turn) for turn in panel(10, 5, 3)], [(0, 10), (5, 10), (10, 10)])


class StaysTest(TurnsTest):
    """Promise 74."""

    def test_stays(self):
        turns = panel(10, 5, 24)
        self.assertPlaces(stays(turns, 0), [0])
        self.assertPlaces(stays(turns, 5), [0, 1])
        self.assertPlaces(stays(turns, 9), [0, 1])
        self.assertPlaces(stays(turns, 10), [1, 2])
        self.assertPlaces(stays(turns, 124), [23])
        self.assertPlaces(stays(turns, 125), [])
        self.assertPlaces(stays(turns, 999), [])
        self.assertPlaces(stays(panel(10, 999, 24), 0), list(range(10)))
        self.assertPlaces(stays(panel(1000, 7, 24), 500), list(range(24)))
        self.assertPlaces(stays([], 500), [])

    def test_against_each_turn(self):
        for turns in turn_lists():
            numbers = [inside(turn) for turn in turns]
            for number in EDGES + tuple(range(3, 1000, 61)):
                self.assertPlaces(stays(turns, number), [place for place, its in enumerate(numbers) if number in its])

    def test_what_is_no_number(self):
        for turns in ([], [Turn(0, 0)], panel(1000, 5, 24)):
            for thing in NO_NUMBERS:
                self.assertRefused(stays, turns, thing)

    def test_counts_by_hand(self):
        for turns, many in (([], [1000]), ([Turn(5, 0)], [1000, 0]), ([Turn(5, 1000)], [0, 1000]),
                            ([Turn(990, 20)], [980, 20]), (panel(10, 5, 2), [985, 10, 5]),
                            (panel(10, 0, 3), [990, 0, 0, 10]), ([Turn(0, 500), Turn(500, 500)], [0, 1000, 0]),
                            ([Turn(0, 600), Turn(500, 600)], [0, 800, 200]),
                            ([Turn(0, 0), Turn(0, 1000), Turn(999, 2)], [0, 998, 2, 0])):
            self.assertPlaces(counts(turns), many)

    def test_counts_against_each_number(self):
        for turns in turn_lists():
            numbers = [inside(turn) for turn in turns]
            wished = [0] * (len(turns) + 1)
            for number in CIRCLE:
                wished[sum(number in its for its in numbers)] += 1
            self.assertPlaces(counts(turns), wished)
            self.assertEqual(sum(counts(turns)), 1000)

    def test_the_list_stays(self):
        turns = panel(10, 5, 3)
        before = list(turns)
        for told_first in (stays(turns, 5), counts(turns)):
            told_first.clear()
        self.assertRefused(stays, turns, 1000)
        self.assertEqual(turns, before)
        self.assertEqual([told(turn) for turn in turns], [(0, 10), (5, 10), (10, 10)])
        self.assertEqual((stays(turns, 5), counts(turns)), ([0, 1], [980, 10, 10, 0]))


class PickedTest(TurnsTest):
    """Promise 75."""

    def test_by_hand(self):
        self.assertPlaces(picked(0, [], []), [])
        self.assertPlaces(picked(990, [20, 20, 10, 11, 0, 1000], [9, 10, 0, 0, 990, 500]), [0, 3, 5])
        self.assertPlaces(picked(0, [1, 1, 1000, 0], [0, 1, 999, 0]), [0, 2])
        self.assertPlaces(picked(999, [1, 1, 2], [999, 0, 0]), [0, 2])
        self.assertPlaces(picked(5, [1000] * 24, [4] * 24), list(range(24)))
        self.assertPlaces(picked(5, [999] * 24, [4] * 24), [])

    def test_against_turns(self):
        throws = random.Random(75)
        for case in range(300):
            start, many = throws.choice((0, 999, throws.randrange(1000))), throws.randrange(25)
            manys = [throws.choice((0, 1, 1000, throws.randrange(1001))) for place in range(many)]
            numbers = [throws.choice((start, 0, 999, throws.randrange(1000))) for place in range(many)]
            self.assertPlaces(picked(start, manys, numbers),
                              [place for place in range(many) if numbers[place] in inside(Turn(start, manys[place]))])

    def test_what_is_no_start(self):
        for thing in NO_NUMBERS:
            self.assertRefused(picked, thing, [], [])
            self.assertRefused(picked, thing, [5], [5])

    def test_what_are_no_manys(self):
        for thing in NO_LISTS + ([5] * 25,):
            self.assertRefused(picked, 0, thing, [])
            self.assertRefused(picked, 0, thing, [5, 5])
        for thing in NO_MANYS:
            self.assertRefused(picked, 0, [thing], [5])
            self.assertRefused(picked, 0, [5, thing], [5, 5])
        self.assertRefused(picked, 0, (5,), [5])

    def test_what_are_no_numbers(self):
        for thing in NO_LISTS + ([5] * 25,):
            self.assertRefused(picked, 0, [], thing)
            self.assertRefused(picked, 0, [5, 5], thing)
        for thing in NO_NUMBERS:
            self.assertRefused(picked, 0, [5], [thing])
            self.assertRefused(picked, 0, [5, 0], [5, thing])
        self.assertRefused(picked, 0, [5], (5,))

    def test_unlike_lengths(self):
        for one, other in itertools.product((0, 1, 2, 23, 24, 25), repeat=2):
            if one != other or one == 25:
                self.assertRefused(picked, 0, [1000] * one, [5] * other)
            else:
                self.assertPlaces(picked(0, [1000] * one, [5] * other), list(range(one)))

    def test_the_lists_stay(self):
        manys, numbers = [20, 5, 1000], [5, 5, 5]
        picked(990, manys, numbers).clear()
        self.assertRefused(picked, 1000, manys, numbers)
        self.assertEqual((manys, numbers), ([20, 5, 1000], [5, 5, 5]))
        self.assertPlaces(picked(990, manys, numbers), [0, 2])


class SpunTest(TurnsTest):
    """Promises 25 to 27, as far as they are told of turns, and 76."""

    def test_by_hand(self):
        self.assertEqual(shape(spun([])), [(1000, ())])
        self.assertEqual(shape(spun([Turn(5, 0)])), [(1000, ())])
        self.assertEqual(shape(spun([Turn(5, 1000)])), [(1000, (0,))])
        self.assertEqual(shape(spun([Turn(0, 10)])), [(10, (0,)), (990, ())])
        self.assertEqual(shape(spun([Turn(990, 10)])), [(990, ()), (10, (0,))])
        self.assertEqual(shape(spun([Turn(990, 20)])), [(10, (0,)), (980, ()), (10, (0,))])
        self.assertEqual(shape(spun([Turn(0, 500), Turn(500, 500)])), [(500, (0,)), (500, (1,))])
        self.assertEqual(shape(spun([Turn(100, 200)] * 3)), [(100, ()), (200, (0, 1, 2)), (700, ())])
        self.assertEqual(shape(spun(panel(10, 5, 3))), [(5, (0,)), (5, (0, 1)), (5, (1, 2)), (5, (2,)), (980, ())])
        self.assertEqual(shape(spun([Turn(3, 1), Turn(0, 1000), Turn(9, 0)])), [(3, (1,)), (1, (0, 1)), (996, (1,))])

    def test_parts_against_the_numbers(self):
        for turns in turn_lists():
            node = spun(turns)
            self.assertIsInstance(node, Node)
            self.assertEqual((node.is_told(), node.kept(), node.sides()), (False, None, 1000))
            parts = [(many, after.kept()) for many, after in node.parts()]
            numbers = [inside(turn) for turn in turns]
            wished = [tuple(place for place, its in enumerate(numbers) if number in its) for number in CIRCLE]
            self.assertEqual([kept for many, kept in parts for side in range(many)], wished)
            self.assertEqual(parts, [(len(list(alike)), kept) for kept, alike in itertools.groupby(wished)])
            for (many, kept), (its_many, its_kept) in itertools.pairwise(parts):
                self.assertNotEqual(kept, its_kept)

    def test_throws_are_numbers(self):
        for turns in turn_lists():
            node = spun(turns)
            for number in EDGES + (250, 251, 990):
                self.assertEqual(drawn(node, [number]), tuple(stays(turns, number)))
                self.assertTrue(node.after(number).is_told())
            for thing in NO_WHOLE_NUMBERS + (-1, 1000, 1001):
                with self.assertRaises(NoThrow) as caught:
                    node.after(thing)
                self.assertEqual(caught.exception.place, 0)

    def test_the_table_and_the_matrix_against_the_overlaps(self):
        for turns in turn_lists():
            node = spun(turns)
            found = {}
            for number in CIRCLE:
                kept = tuple(stays(turns, number))
                found[kept] = found.get(kept, 0) + 1
            self.assertEqual(table(node), [(kept, pair(Fraction(found[kept], 1000))) for kept in sorted(found)])
            self.assertEqual(matrix_of(node, list(range(len(turns)))),
                             [[pair(Fraction(overlap(one, other), 1000)) for other in turns] for one in turns])

    def test_the_list_stays_and_may_be_changed_later(self):
        turns = panel(10, 5, 3)
        before = list(turns)
        node = spun(turns)
        wished = [(5, (0,)), (5, (0, 1)), (5, (1, 2)), (5, (2,)), (980, ())]
        self.assertEqual(turns, before)
        turns[0] = Turn(500, 500)
        turns.append(Turn(0, 1000))
        self.assertEqual(shape(node), wished)
        node.parts().clear()
        self.assertEqual(shape(node), wished)
        self.assertEqual(shape(spun(before)), wished)


if __name__ == "__main__":
    unittest.main()
