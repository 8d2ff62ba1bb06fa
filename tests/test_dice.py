import copy
import random
import unittest
from fractions import Fraction

from fewspeak.dice import Die, Node, Told, behind, both, drawn, matrix_of, table
from fewspeak.errors import NoThrow, SpeakError, TooMany
from walks import NO_WHOLE_NUMBERS, pair, walk, walked_matrix, walked_table, ways

BILLION = 10 ** 9


def leads_to(*kept):
    return lambda: Told(list(kept))


def coin(one, other):
    """A die of two sides, each a part, that keeps one or the other."""
    return Die([(1, leads_to(*one)), (1, leads_to(*other))])


def even(many):
    """A die of so many sides, each a part, that all keep nothing."""
    return Die([(1, leads_to()) for side in range(many)])


def noting(notes, name, make):
    """The function make, that notes its name each time that it is asked."""
    def asked():
        notes.append(name)
        return make()
    return asked


def three_parts():
    """Two sides that keep 4, three sides that lead to a coin, one side that keeps 7 and 2."""
    return Die([(2, leads_to(4)), (3, lambda: coin((1,), (5, 3))), (1, leads_to(7, 2))])


def some_node(throws, depth, numbers):
    """A node of at most so many dice on each way, that keeps some of these numbers."""
    if depth == 0 or throws.randrange(5) == 0:
        return Told(throws.sample(numbers, throws.randrange(len(numbers) + 1)))
    parts = [(throws.randrange(1, 4), some_node(throws, depth - 1, numbers)) for part in range(throws.randrange(1, 4))]
    return Die([(many, lambda after=after: after) for many, after in parts])


def some_nodes(seed, depth=3, numbers=(0, 3, 8, 99)):
    throws = random.Random(seed)
    return [some_node(throws, depth, numbers) for number in range(60)]


def seen(node):
    """All that a node tells, in a form that can be compared."""
    return (node.is_told(), node.kept(), node.sides(), [(many, seen(after)) for many, after in node.parts()])


class RefusedTest(unittest.TestCase):
    def assertNoThrow(self, place, ask, *things):
        with self.assertRaises(SpeakError) as caught:
            ask(*things)
        self.assertIs(type(caught.exception), NoThrow)
        self.assertEqual(caught.exception.place, place)
        self.assertIs(type(caught.exception.place), int)

    def assertTooMany(self, ask, *things):
        with self.assertRaises(SpeakError) as caught:
            ask(*things)
        self.assertIs(type(caught.exception), TooMany)


class ToldTest(RefusedTest):
    """Promises 22 and 23."""

    def test_both_kinds_stand_under_node(self):
        self.assertIsInstance(Told([]), Node)
        self.assertIsInstance(three_parts(), Node)
        self.assertNotIsInstance(Told([]), Die)
        self.assertNotIsInstance(three_parts(), Told)

    def test_what_is_kept_rises_in_whatever_order_it_came(self):
        for handed_in in ([], (), [0], (99,), [1, 2, 3], [3, 2, 1], (3, 2, 1), (2, 3, 1), [99, 0, 50], (10, 9, 100 - 1),
                          list(range(99, -1, -1)), tuple(range(100))):
            told = Told(handed_in).kept()
            with self.subTest(handed_in):
                self.assertEqual(told, tuple(sorted(handed_in)))
                self.assertIs(type(told), tuple)

    def test_it_is_told_without_sides_and_parts(self):
        for kept in ([], [5], (9, 1)):
            node = Told(kept)
            self.assertIs(node.is_told(), True)
            self.assertEqual(node.sides(), 0)
            self.assertEqual(node.parts(), [])
            self.assertIs(type(node.parts()), list)

    def test_any_throw_is_refused(self):
        for node in (Told([]), Told([0]), Told((3, 1)), three_parts().after(0)):
            for throw in (0, 1, -1, BILLION) + NO_WHOLE_NUMBERS:
                with self.subTest(repr(throw)):
                    self.assertNoThrow(0, node.after, throw)

    def test_what_was_handed_in_is_not_changed_and_not_held(self):
        handed_in = [7, 3, 5]
        node = Told(handed_in)
        self.assertEqual(handed_in, [7, 3, 5])
        handed_in.append(1)
        handed_in[0] = 99
        self.assertEqual(node.kept(), (3, 5, 7))

    def test_the_parts_are_the_askers_own(self):
        node = Told([1])
        node.parts().append((1, node))
        self.assertEqual(node.parts(), [])
        self.assertEqual(Told([2]).parts(), [])


class DieTest(RefusedTest):
    """Promises 4, 22 and 23."""

    def test_it_is_not_told_and_keeps_none(self):
        for node in (three_parts(), Die([(1, leads_to())])):
            self.assertIs(node.is_told(), False)
            self.assertIsNone(node.kept())

    def test_sides(self):
        for manys in ([1], [2], [1, 1], [2, 3, 1], [5, 1, 4], [BILLION], [1, BILLION - 1], [1] * 100, [10 ** 12 - 1, 1]):
            with self.subTest(manys[:5]):
                self.assertEqual(Die([(many, leads_to()) for many in manys]).sides(), sum(manys))

    def test_parts_in_their_order(self):
        parts = three_parts().parts()
        self.assertIs(type(parts), list)
        self.assertEqual([type(part) for part in parts], [tuple] * 3)
        self.assertEqual([(many, seen(after)) for many, after in parts],
                         [(2, seen(Told([4]))), (3, seen(coin((1,), (3, 5)))), (1, seen(Told([2, 7])))])
        self.assertEqual([(many, after.kept()) for many, after in Die([(9, leads_to(6, 1))]).parts()], [(9, (1, 6))])

    def test_the_first_and_the_last_side_of_each_part(self):
        for manys in ([1], [6], [1, 1], [2, 3, 1], [1, 5, 1], [4, 1, 7], [BILLION], [1, BILLION - 1], [BILLION - 1, 1],
                      [333333333, 1, 666666666], [1] * 100):
            node = Die([(many, leads_to(number)) for number, many in enumerate(manys)])
            for number, many in enumerate(manys):
                ahead = sum(manys[:number])
                for throw in (ahead, ahead + many // 2, ahead + many - 1):
                    with self.subTest(manys[:5], throw=throw):
                        self.assertEqual(node.after(throw).kept(), (number,))

    def test_every_side_of_a_small_die(self):
        self.assertEqual([three_parts().after(throw).kept() for throw in range(6)], [(4,)] * 2 + [None] * 3 + [(2, 7)])
        self.assertEqual([three_parts().after(3).after(throw).kept() for throw in range(2)], [(1,), (3, 5)])

    def test_throws_that_can_not_be(self):
        for node in (Die([(1, leads_to())]), three_parts(), Die([(BILLION, leads_to(1))]), coin((1,), (2,))):
            beyond = (-1, -2, -node.sides(), node.sides(), node.sides() + 1, 10 ** 30, -10 ** 30)
            for throw in beyond + NO_WHOLE_NUMBERS:
                with self.subTest(repr(throw), sides=node.sides()):
                    self.assertNoThrow(0, node.after, throw)

    def test_a_die_behind_a_die_refuses_with_place_0_too(self):
        self.assertNoThrow(0, three_parts().after(2).after, 2)

    def test_the_list_is_not_changed_and_not_held(self):
        handed_in = [(2, leads_to(1)), (1, leads_to(2))]
        before = list(handed_in)
        node = Die(handed_in)
        node.parts(), node.after(0), node.sides()
        self.assertEqual(handed_in, before)
        told = seen(node)
        handed_in.append((5, leads_to(3)))
        handed_in[0] = (9, leads_to(9))
        self.assertEqual(seen(node), told)
        handed_in.clear()
        self.assertEqual(seen(node), told)
        self.assertEqual(node.after(0).kept(), (1,))

    def test_the_parts_are_the_askers_own(self):
        node = three_parts()
        told = seen(node)
        node.parts().clear()
        parts = node.parts()
        parts.reverse()
        parts[0] = None
        self.assertEqual(seen(node), told)
        self.assertEqual(node.after(0).kept(), (4,))

    def test_a_refusal_changes_nothing(self):
        node = three_parts()
        told = seen(node)
        for throw in (-1, 6, None):
            self.assertNoThrow(0, node.after, throw)
        self.assertEqual(seen(node), told)


class AskedTest(RefusedTest):
    """Promise 22: when the functions of parts are asked."""

    def die(self, notes, name, *kept):
        return Die([(2, noting(notes, f"{name}{number}", leads_to(*some))) for number, some in enumerate(kept)])

    def test_only_the_thrown_part_of_a_die(self):
        notes = []
        node = self.die(notes, "a", (1,), (2,), (3,))
        node.is_told(), node.kept(), node.sides()
        self.assertEqual(notes, [])
        node.after(3)
        self.assertEqual(notes, ["a1"])
        node.after(5)
        self.assertEqual(notes, ["a1", "a2"])

    def test_all_parts_where_the_parts_are_asked_for(self):
        notes = []
        node = self.die(notes, "a", (1,), (2,), (3,))
        node.parts()
        self.assertEqual(sorted(notes), ["a0", "a1", "a2"])

    def test_none_by_a_throw_that_can_not_be(self):
        notes = []
        node = self.die(notes, "a", (1,), (2,))
        for throw in (-1, 4, True, None, "1", [0]):
            self.assertNoThrow(0, node.after, throw)
            self.assertNoThrow(0, drawn, node, [throw])
        self.assertNoThrow(0, drawn, node, [])
        self.assertEqual(notes, [])

    def test_a_die_behind_is_not_asked_ahead_of_time(self):
        notes = []
        inner = self.die(notes, "b", (1,), (2,))
        node = Die([(1, noting(notes, "a0", lambda: inner)), (1, noting(notes, "a1", leads_to(7)))])
        node.parts()
        node.after(0)
        self.assertNotIn("b0", notes)
        self.assertNotIn("b1", notes)

    def test_drawing_asks_only_along_the_way(self):
        notes = []
        inner = self.die(notes, "b", (1,), (2,))
        node = Die([(1, noting(notes, "a0", lambda: inner)), (1, noting(notes, "a1", leads_to(7)))])
        self.assertEqual(drawn(node, [0, 3]), (2,))
        self.assertEqual(set(notes), {"a0", "b1"})

    def test_of_both(self):
        notes = []
        node = both(self.die(notes, "a", (1,), (2,)), self.die(notes, "b", (3,), (4,)))
        node.is_told(), node.kept(), node.sides()
        self.assertEqual(notes, [])
        after = node.after(1)
        after.is_told(), after.kept(), after.sides()
        self.assertEqual(set(notes), {"a0"})
        del notes[:]
        self.assertEqual(after.after(2).kept(), (1, 4))
        self.assertEqual(set(notes), {"b1"})
        del notes[:]
        node.parts()
        self.assertEqual(set(notes), {"a0", "a1"})

    def test_of_both_with_a_told_one(self):
        notes = []
        for node in (both(Told([9]), self.die(notes, "b", (3,), (4,))), both(self.die(notes, "b", (3,), (4,)), Told([9]))):
            del notes[:]
            node.sides(), node.kept()
            self.assertEqual(notes, [])
            self.assertEqual(node.after(0).kept(), (3, 9))
            self.assertEqual(set(notes), {"b0"})

    def test_of_behind(self):
        notes = []

        def go(kept):
            notes.append(kept)
            return self.die(notes, "b", kept, (8,))

        node = behind(self.die(notes, "a", (1,), (2,)), go)
        node.is_told(), node.kept(), node.sides()
        self.assertEqual(notes, [])
        after = node.after(3)
        self.assertEqual(set(notes), {"a1", (2,)})
        del notes[:]
        self.assertEqual(after.after(0).kept(), (2,))
        self.assertEqual(set(notes), {"b0"})

    def test_of_throws_that_can_not_be_at_both_and_behind(self):
        notes = []
        one, other = self.die(notes, "a", (1,), (2,)), self.die(notes, "b", (3,), (4,))
        for node in (both(one, other), behind(one, lambda kept: other)):
            for throw in (-1, 4, True, None):
                self.assertNoThrow(0, node.after, throw)
        self.assertEqual(notes, [])


class DrawnTest(RefusedTest):
    """Promise 24."""

    def test_what_throws_lead_to(self):
        for throws, kept in (([0], (4,)), ([1], (4,)), ([2, 0], (1,)), ([3, 1], (3, 5)), ([4, 1], (3, 5)), ([5], (2, 7))):
            with self.subTest(throws):
                self.assertEqual(drawn(three_parts(), throws), kept)
                self.assertIs(type(drawn(three_parts(), throws)), tuple)

    def test_no_throws_at_a_told_node(self):
        self.assertEqual(drawn(Told([5, 2]), []), (2, 5))
        self.assertEqual(drawn(Told([]), []), ())

    def test_too_few_throws(self):
        self.assertNoThrow(0, drawn, three_parts(), [])
        self.assertNoThrow(1, drawn, three_parts(), [2])
        self.assertNoThrow(2, drawn, both(three_parts(), three_parts()), [2, 0])
        self.assertNoThrow(3, drawn, both(three_parts(), three_parts()), [2, 0, 4])

    def test_too_many_throws(self):
        self.assertNoThrow(0, drawn, Told([1]), [0])
        self.assertNoThrow(1, drawn, three_parts(), [0, 0])
        self.assertNoThrow(1, drawn, three_parts(), [0, 0, 0])
        self.assertNoThrow(2, drawn, three_parts(), [2, 1, 0])
        self.assertNoThrow(2, drawn, three_parts(), [2, 1, None])

    def test_a_wrong_throw_at_each_place(self):
        node = both(three_parts(), both(coin((10,), (11,)), three_parts_beyond()))
        for place, sides in enumerate((6, 2, 2, 6, 2)):
            right = [3, 0, 1, 2, 1]
            self.assertEqual(drawn(node, right), (1, 11, 23, 25))
            for throw in (-1, sides, sides + 1, BILLION) + NO_WHOLE_NUMBERS:
                wrong = list(right)
                wrong[place] = throw
                with self.subTest(repr(throw), place=place):
                    self.assertNoThrow(place, drawn, node, wrong)
                    self.assertNoThrow(place, drawn, node, wrong[:place + 1])

    def test_the_first_of_several_wrong_throws_is_told(self):
        self.assertNoThrow(0, drawn, three_parts(), [9, 9, 9])
        self.assertNoThrow(1, drawn, three_parts(), [2, "0", 9])
        self.assertNoThrow(0, drawn, three_parts(), [True])

    def test_the_list_stays(self):
        for throws in ([0], [3, 1], [], [2], [0, 0], [9], [2, True], [None]):
            before = copy.copy(throws)
            try:
                drawn(three_parts(), throws)
            except NoThrow:
                pass
            self.assertEqual(throws, before)

    def test_a_hundred_dice_behind_one_another(self):
        node = Told([])
        for number in range(100):
            node = both(node, coin((), (number,)))
        self.assertEqual(drawn(node, [0, 1] * 50), tuple(range(1, 100, 2)))
        self.assertNoThrow(100, drawn, node, [1] * 101)
        self.assertNoThrow(99, drawn, node, [1] * 99)
        again = Told([])
        for number in range(100):
            again = both(coin((), (number,)), again)
        self.assertEqual(drawn(again, [0, 1] * 50), tuple(range(0, 100, 2)))


def three_parts_beyond():
    """The die of three parts, with 20 more in each number that is kept."""
    return behind(three_parts(), lambda kept: Told([number + 20 for number in kept]))


class TableTest(RefusedTest):
    """Promises 4 and 25."""

    def test_a_told_node_has_one_row(self):
        self.assertEqual(table(Told([5, 3])), [((3, 5), (1, 1))])
        self.assertEqual(table(Told([])), [((), (1, 1))])

    def test_rows_rise_by_what_is_kept(self):
        self.assertEqual(table(three_parts()), [((1,), (1, 4)), ((2, 7), (1, 6)), ((3, 5), (1, 4)), ((4,), (1, 3))])
        node = Die([(1, leads_to(*kept)) for kept in ((10,), (9, 2), (2,), (), (1, 99), (2, 3, 4), (2, 3))])
        self.assertEqual([row[0] for row in table(node)], [(), (1, 99), (2,), (2, 3), (2, 3, 4), (2, 9), (10,)])

    def test_a_tuple_that_several_ways_keep_has_one_row(self):
        node = Die([(1, leads_to(3, 1)), (2, leads_to(2)), (3, lambda: coin((1, 3), (2,)))])
        self.assertEqual(table(node), [((1, 3), (5, 12)), ((2,), (7, 12))])
        self.assertEqual(table(Die([(2, leads_to(5)), (3, leads_to(5))])), [((5,), (1, 1))])

    def test_parts_count_by_their_sides(self):
        node = Die([(1, leads_to(1)), (BILLION - 1, leads_to(2))])
        self.assertEqual(table(node), [((1,), (1, BILLION)), ((2,), (BILLION - 1, BILLION))])
        self.assertEqual(table(both(node, Told([9])))[0], ((1, 9), (1, BILLION)))

    def test_the_kinds_of_what_is_told(self):
        told = table(three_parts())
        self.assertIs(type(told), list)
        for row in told:
            self.assertEqual([type(row), type(row[0]), type(row[1])], [tuple] * 3)
            self.assertEqual([type(number) for number in row[1]], [int, int])

    def test_against_every_throw(self):
        for node in some_nodes(25):
            self.assertEqual(table(node), walked_table(node))

    def test_shares_come_to_1(self):
        for node in some_nodes(4) + [three_parts(), Told([1])]:
            self.assertEqual(sum(Fraction(*row[1]) for row in table(node)), 1)

    def test_4096_ways_and_4097(self):
        self.assertEqual(table(even(4096)), [((), (1, 1))])
        self.assertTooMany(table, even(4097))
        self.assertEqual(table(both(even(64), even(64))), [((), (1, 1))])
        self.assertTooMany(table, Die([(1, lambda: both(even(64), even(64))), (1, leads_to(1))]))
        self.assertTooMany(table, Die([(1, leads_to(1)), (1, lambda: both(even(64), even(64)))]))
        self.assertTooMany(table, both(even(64), even(65)))

    def test_4096_ways_that_keep_unlike_tuples(self):
        node = Told([])
        for number in range(12):
            node = both(node, coin((), (number,)))
        told = table(node)
        self.assertEqual(len(told), 4096)
        self.assertEqual({row[1] for row in told}, {(1, 4096)})
        self.assertTooMany(table, both(node, coin((), (12,))))

    def test_a_single_part_makes_no_more_ways(self):
        node = even(4096)
        for number in range(80):
            node = both(Die([(7, leads_to())]), node)
        self.assertEqual(table(node), [((), (1, 1))])

    def test_far_too_many_ways_are_refused_soon(self):
        node = Told([])
        for number in range(100):
            node = both(node, coin((), (number,)))
        self.assertTooMany(table, node)

    def test_ways_of_a_hundred_dice_of_many_sides(self):
        node = Told([])
        for number in range(100):
            node = both(node, Die([(10 ** 12, leads_to(number))]))
        self.assertEqual(table(node), [(tuple(range(100)), (1, 1))])
        node = Told([])
        for number in range(10):
            node = both(node, Die([(1, leads_to(number)), (10 ** 12 - 1, leads_to())]))
        told = dict(table(node))
        self.assertEqual(told[tuple(range(10))], (1, 10 ** 120))
        self.assertEqual(told[()], ((10 ** 12 - 1) ** 10, 10 ** 120))

    def test_the_table_is_the_askers_own(self):
        node = three_parts()
        told = table(node)
        before = list(told)
        told.clear()
        self.assertEqual(table(node), before)


class BehindTest(RefusedTest):
    """Promises 5, 22 and 26."""

    def test_both_of_told_nodes(self):
        self.assertEqual(both(Told([5, 1]), Told((3,))).kept(), (1, 3, 5))
        self.assertEqual(both(Told([]), Told([])).kept(), ())

    def test_both_throw_the_one_and_then_the_other(self):
        node = both(three_parts(), three_parts_beyond())
        self.assertEqual(node.sides(), 6)
        self.assertEqual(drawn(node, [0, 5]), (4, 22, 27))
        self.assertEqual(drawn(node, [2, 1, 0]), (3, 5, 24))
        self.assertEqual(drawn(node, [2, 0, 3, 1]), (1, 23, 25))
        self.assertEqual(drawn(both(Told([50]), three_parts()), [0]), (4, 50))
        self.assertEqual(drawn(both(three_parts(), Told([50])), [5]), (2, 7, 50))

    def test_both_of_dice_of_unlike_sides(self):
        node = both(Die([(4, leads_to(1)), (3, leads_to(2))]), Die([(2, leads_to(3)), (9, leads_to(4))]))
        self.assertEqual([many for many, after in node.parts()], [4, 3])
        self.assertEqual([many for many, after in node.after(5).parts()], [2, 9])
        self.assertEqual(table(node), [((1, 3), (8, 77)), ((1, 4), (36, 77)), ((2, 3), (6, 77)), ((2, 4), (27, 77))])

    def test_both_has_the_ways_of_either(self):
        ones, others = some_nodes(261, numbers=(0, 4, 9)), some_nodes(262, numbers=(1, 5, 98))
        for one, other in zip(ones, others):
            told = [(throws + more, tuple(sorted(kept + added)), part * share)
                    for throws, kept, part in walk(one) for more, added, share in walk(other)]
            self.assertEqual(sorted(walk(both(one, other))), sorted(told))

    def test_going_on_at_a_die_and_at_a_told_node(self):
        def go(kept):
            return coin((kept[0] + 10,), (kept[0] + 20,)) if len(kept) == 1 else Told([90])

        node = behind(three_parts(), go)
        for throws, kept in (([0, 0], (14,)), ([1, 1], (24,)), ([3, 0, 1], (21,)), ([3, 1], (90,)), ([5], (90,))):
            with self.subTest(throws):
                self.assertEqual(drawn(node, throws), kept)
        self.assertEqual(table(node), [((11,), (1, 8)), ((14,), (1, 6)), ((21,), (1, 8)), ((24,), (1, 6)),
                                       ((90,), (5, 12))])

    def test_going_on_from_a_told_node(self):
        self.assertEqual(behind(Told([4, 3]), lambda kept: Told([kept[0] + 1])).kept(), (4,))
        node = behind(Told([4, 3]), lambda kept: coin(kept, ()))
        self.assertEqual([drawn(node, [throw]) for throw in (0, 1)], [(3, 4), ()])

    def test_the_function_is_handed_a_rising_tuple(self):
        handed = []

        def go(kept):
            handed.append(kept)
            return Told([])

        drawn(behind(Die([(1, leads_to(9, 3, 5))]), go), [0])
        drawn(behind(Told([]), go), [])
        self.assertEqual(set(handed), {(3, 5, 9), ()})
        self.assertEqual({type(kept) for kept in handed}, {tuple})

    def test_going_on_has_the_ways_of_the_one_and_then_of_what_is_told(self):
        onwards = dict(zip([tuple(n for bit, n in enumerate((0, 3, 8, 99)) if k >> bit & 1) for k in range(16)],
                           some_nodes(263)))
        for node in some_nodes(264):
            told = [(throws + more, added, part * share) for throws, kept, part in walk(node)
                    for more, added, share in walk(onwards[kept])]
            self.assertEqual(sorted(walk(behind(node, lambda kept: onwards[kept]))), sorted(told))

    def test_dice_that_are_put_together_stay_as_they_were(self):
        one, other = three_parts(), coin((8,), (9,))
        before = (seen(one), seen(other))
        told = seen(both(one, other))
        self.assertEqual((seen(one), seen(other)), before)
        self.assertEqual(seen(both(one, other)), told)
        behind(one, lambda kept: other).parts()
        self.assertEqual((seen(one), seen(other)), before)

    def test_what_was_put_together_may_be_asked_several_times(self):
        node = both(three_parts(), coin((8,), (9,)))
        told = seen(node)
        node.parts().clear()
        drawn(node, [0, 0])
        self.assertEqual(seen(node), told)
        self.assertEqual(drawn(node, [0, 1]), (4, 9))
        self.assertEqual(drawn(node, [0, 1]), (4, 9))

    def test_wrong_throws_are_refused(self):
        node = both(three_parts(), coin((8,), (9,)))
        for throw in (-1, 6, True, None, "0"):
            self.assertNoThrow(0, node.after, throw)
            self.assertNoThrow(1, drawn, node, [0, throw])
        self.assertNoThrow(0, node.after(0).after(0).after, 0)


class MatrixOfTest(RefusedTest):
    """Promise 27."""

    def test_some_by_hand(self):
        node = three_parts()
        self.assertEqual(matrix_of(node, [1, 3, 5]), [[(1, 4), (0, 1), (0, 1)], [(0, 1), (1, 4), (1, 4)],
                                                      [(0, 1), (1, 4), (1, 4)]])
        self.assertEqual(matrix_of(node, [7]), [[(1, 6)]])

    def test_places_in_any_order(self):
        node = both(three_parts(), three_parts_beyond())
        self.assertEqual(matrix_of(node, [24, 3, 2]), [[(1, 3), (1, 12), (1, 18)], [(1, 12), (1, 4), (0, 1)],
                                                       [(1, 18), (0, 1), (1, 6)]])
        self.assertEqual(matrix_of(node, [2, 3, 24]), [[(1, 6), (0, 1), (1, 18)], [(0, 1), (1, 4), (1, 12)],
                                                       [(1, 18), (1, 12), (1, 3)]])

    def test_places_that_are_never_kept(self):
        self.assertEqual(matrix_of(three_parts(), [0, 4, 99]), [[(0, 1)] * 3, [(0, 1), (1, 3), (0, 1)], [(0, 1)] * 3])
        self.assertEqual(matrix_of(Told([]), [5, 6]), [[(0, 1)] * 2] * 2)

    def test_no_places(self):
        self.assertEqual(matrix_of(three_parts(), []), [])
        self.assertEqual(matrix_of(Told([1]), []), [])

    def test_a_told_node(self):
        self.assertEqual(matrix_of(Told([2, 5]), [5, 3, 2]), [[(1, 1), (0, 1), (1, 1)], [(0, 1)] * 3,
                                                              [(1, 1), (0, 1), (1, 1)]])

    def test_against_every_throw(self):
        orders = random.Random(27)
        for node in some_nodes(27):
            places = orders.sample((0, 3, 8, 50, 99), orders.randrange(6))
            self.assertEqual(matrix_of(node, places), walked_matrix(node, places))

    def test_against_every_way_of_dice_of_many_sides(self):
        node = both(Die([(1, leads_to(1)), (BILLION - 1, leads_to(1, 2)), (7, leads_to())]),
                    Die([(999999937, leads_to(3)), (12, leads_to(0))]))
        walked = ways(node)
        places = [3, 2, 0, 1]
        self.assertEqual(matrix_of(node, places), [
            [pair(sum(part for kept, part in walked if one in kept and other in kept)) for other in places]
            for one in places])

    def test_4096_ways_and_4097(self):
        self.assertEqual(matrix_of(even(4096), [1]), [[(0, 1)]])
        for places in ([], [1], [1, 2]):
            self.assertTooMany(matrix_of, even(4097), places)

    def test_the_kinds_of_what_is_told(self):
        told = matrix_of(three_parts(), [1, 3])
        self.assertEqual([type(told)] + [type(row) for row in told], [list] * 3)
        self.assertEqual({type(entry) for row in told for entry in row}, {tuple})

    def test_the_rows_are_the_askers_own_and_places_stay(self):
        node, places = three_parts(), [5, 3, 1]
        told = matrix_of(node, places)
        before = copy.deepcopy(told)
        told[0][0] = None
        self.assertEqual(told[1:], before[1:])
        told.clear()
        self.assertEqual(places, [5, 3, 1])
        self.assertEqual(matrix_of(node, places), before)
        self.assertTooMany(matrix_of, even(4097), places)
        self.assertEqual(places, [5, 3, 1])


if __name__ == "__main__":
    unittest.main()
