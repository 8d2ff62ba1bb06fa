import copy
import itertools
import random
import unittest
from fractions import Fraction
from math import comb

from fewspeak.dice import Node, drawn, matrix_of, table
from fewspeak.errors import NoThing, NoThrow, SpeakError, TooMany
from fewspeak.pots import Pot, into, poured, streamed
from walks import NO_WHOLE_NUMBERS, shape, walk, walked_table, ways

NO_MOSTS = NO_WHOLE_NUMBERS + (0, -1, 25, 10 ** 20)
NO_NAMES = (None, True, 0, 1, 1.5, "", "A", "aB", "a b", "a1", "a-b", " a", "a ", "a\n", "abcdefghi", b"a", ("a",), ["a"],
            {}, {"a"}, object(), str)
LETTERS = "abcdefghijklmnopqrstuvwxyz"


def filled(most, names, throws=()):
    """A pot into which these things came, by these throws from the first die on, and by the last side behind them."""
    pot = Pot(most)
    left = list(throws)
    for name in names:
        sides = pot.next_sides()
        pot.come(name, (left.pop(0) if left else sides - 1) if sides > 1 else 0)
    return pot


def seen(pot):
    """All that a pot tells."""
    return (pot.most, pot.came(), pot.next_sides(), pot.things())


def all_pots(most, names):
    """Each pot into which these things may have come, with its share over all throws: tuples (pot, share)."""
    return all_behind([(Pot(most), Fraction(1))], names)


def all_behind(pots, names):
    for name in names:
        more = []
        for pot, part in pots:
            sides = pot.next_sides()
            for throw in range(sides):
                after = copy.deepcopy(pot)
                after.come(name, throw)
                more.append((after, part / sides))
        pots = alike_together(more)
    return pots


def all_poured(ones, others):
    """Each pot into which two of these may be poured together, with its share over all throws."""
    more = []
    for (one, part), (other, its_part) in itertools.product(ones, others):
        for kept, share in ways(poured(one, other)):
            more.append((into(one, other, kept), part * its_part * share))
    return alike_together(more)


def alike_together(pots):
    # Pots that tell the same do the same from now on, so that one of them will do.
    found = {}
    for pot, part in pots:
        key = (pot.most, pot.came(), tuple(pot.things()))
        found[key] = (pot, found.get(key, (pot, 0))[1] + part)
    return list(found.values())


class PotsTest(unittest.TestCase):
    def assertRefused(self, kind, ask, *things):
        with self.assertRaises(SpeakError) as caught:
            ask(*things)
        self.assertIs(type(caught.exception), kind)
        if kind is NoThrow:
            self.assertEqual(caught.exception.place, 0)

    def assertEven(self, pots, most, names):
        """Each set of as many things as are kept is kept with the same share."""
        found = {}
        for pot, part in pots:
            self.assertEqual((pot.most, pot.came()), (most, len(names)))
            key = tuple(sorted(pot.things()))
            found[key] = found.get(key, 0) + part
        many = min(most, len(names))
        wished = {tuple(sorted(some)): Fraction(1, comb(len(names), many)) for some in itertools.combinations(names, many)}
        self.assertEqual(found, wished)


class PotTest(PotsTest):
    """Promises 2, 5, 6, 81 and 82."""

    def test_a_new_pot(self):
        for most in range(1, 25):
            self.assertEqual(seen(Pot(most)), (most, 0, 1, []))

    def test_what_is_no_most(self):
        for thing in NO_MOSTS:
            self.assertRefused(NoThing, Pot, thing)

    def test_by_hand(self):
        pot = Pot(2)
        self.assertIsNone(pot.come("ann"))
        self.assertEqual(seen(pot), (2, 1, 1, ["ann"]))
        self.assertIsNone(pot.come("bea", 0))
        self.assertEqual(seen(pot), (2, 2, 3, ["ann", "bea"]))
        self.assertIsNone(pot.come("cleo", 2))
        self.assertEqual(seen(pot), (2, 3, 4, ["ann", "bea"]))
        self.assertIsNone(pot.come("dora", 1))
        self.assertEqual(seen(pot), (2, 4, 5, ["ann", "dora"]))
        pot.come("eve")
        self.assertEqual(seen(pot), (2, 5, 6, ["eve", "dora"]))
        pot.come("eve", 1)
        self.assertEqual(seen(pot), (2, 6, 7, ["eve", "eve"]))

    def test_pots_of_one(self):
        pot = Pot(1)
        for number, (throw, kept) in enumerate(((0, "a"), (1, "a"), (0, "c"), (3, "c"), (1, "c"), (0, "f"))):
            self.assertEqual(pot.next_sides(), number + 1)
            pot.come(LETTERS[number], throw)
            self.assertEqual(pot.things(), [kept])

    def test_pots_of_24(self):
        pot = Pot(24)
        for number in range(24):
            self.assertEqual((pot.next_sides(), pot.came()), (1, number))
            self.assertRefused(NoThrow, pot.come, "z", 1)
            pot.come(LETTERS[number])
        self.assertEqual(seen(pot), (24, 24, 25, list(LETTERS[:24])))
        pot.come("y", 24)
        self.assertEqual(seen(pot), (24, 25, 26, list(LETTERS[:24])))
        pot.come("z", 23)
        self.assertEqual(seen(pot), (24, 26, 27, list(LETTERS[:23]) + ["z"]))

    def test_the_bounds_of_each_die(self):
        for most in (1, 2, 3, 24):
            for number in range(40):
                pot = filled(most, "a" * number)
                sides = 1 if number < most else number + 1
                self.assertEqual((pot.next_sides(), pot.came()), (sides, number))
                for throw in (-1, sides, sides + 1, 10 ** 20) + NO_WHOLE_NUMBERS:
                    self.assertRefused(NoThrow, pot.come, "b", throw)
                self.assertEqual(seen(pot), (most, number, sides, ["a"] * min(number, most)))
                for throw in sorted({0, min(most, sides) - 1, min(most, sides - 1), sides - 1}):
                    after = copy.deepcopy(pot)
                    after.come("b", throw)
                    kept = ["a"] * min(number, most)
                    if number < most:
                        kept.append("b")
                    elif throw < most:
                        kept[throw] = "b"
                    self.assertEqual((after.came(), after.things()), (number + 1, kept))

    def test_a_throw_left_out_is_0(self):
        for number in range(6):
            one, other = filled(3, LETTERS[:number]), filled(3, LETTERS[:number])
            one.come("z")
            other.come("z", 0)
            self.assertEqual(seen(one), seen(other))

    def test_the_same_name_several_times(self):
        pot = filled(3, ["ann", "ann", "ann", "bea", "bea"], [1, 0])
        self.assertEqual(pot.things(), ["bea", "bea", "ann"])

    def test_names(self):
        pot = Pot(3)
        for name in ("a", "z", "abcdefgh", "zzzzzzzz"):
            pot.come(name, 0)
        for name in NO_NAMES:
            self.assertRefused(NoThing, pot.come, name)
            self.assertRefused(NoThing, pot.come, name, 1)
            self.assertRefused(NoThing, pot.come, name, 99)
        self.assertEqual(seen(pot), (3, 4, 5, ["zzzzzzzz", "z", "abcdefgh"]))

    def test_the_300th_and_the_301st(self):
        for most in (1, 24):
            pot = filled(most, ["a"] * 299)
            self.assertEqual((pot.came(), pot.next_sides()), (299, 300))
            self.assertRefused(NoThrow, pot.come, "b", 300)
            pot.come("b", most - 1)
            before = seen(pot)
            self.assertEqual(before, (most, 300, 301, ["a"] * (most - 1) + ["b"]))
            for throw in (0, 300, 301, -1, None):
                self.assertRefused(TooMany, pot.come, "c", throw)
                self.assertRefused(NoThing, pot.come, "C", throw)
            self.assertRefused(TooMany, pot.come, "c")
            self.assertEqual(seen(pot), before)

    def test_which_refusal_goes_first(self):
        for pot in (Pot(2), filled(2, "abc"), filled(2, ["a"] * 300)):
            before = seen(pot)
            for throw in (-1, 999, None, "0", True):
                self.assertRefused(NoThing, pot.come, None, throw)
                self.assertRefused(TooMany if pot.came() == 300 else NoThrow, pot.come, "a", throw)
            self.assertEqual(seen(pot), before)

    def test_a_refusal_changes_nothing(self):
        pot, other = filled(2, "abc", [1]), filled(2, "abc", [1])
        for thing, throw in (("A", 0), ("d", 4), ("d", -1), ("d", True), (None, 0)):
            with self.assertRaises(SpeakError):
                pot.come(thing, throw)
        for throw in (1, 4, 0):
            pot.come("d", throw)
            other.come("d", throw)
            self.assertEqual(seen(pot), seen(other))

    def test_two_pots_side_by_side(self):
        one, other = Pot(2), Pot(2)
        one.come("a")
        self.assertEqual((seen(one), seen(other)), ((2, 1, 1, ["a"]), (2, 0, 1, [])))
        other.come("b")
        other.come("c")
        other.come("d", 0)
        self.assertEqual((seen(one), seen(other)), ((2, 1, 1, ["a"]), (2, 3, 4, ["d", "c"])))

    def test_the_things_told_are_the_askers_own(self):
        pot = filled(2, "ab")
        first = pot.things()
        first[0] = "z"
        first.append("y")
        self.assertEqual(seen(pot), (2, 2, 3, ["a", "b"]))
        second = pot.things()
        pot.come("c", 0)
        self.assertEqual((second, pot.things()), (["a", "b"], ["c", "b"]))

    def test_each_set_is_kept_with_the_same_share(self):
        for most, many in itertools.product((1, 2, 3), range(6)):
            names = LETTERS[:many]
            self.assertEven(all_pots(most, names), most, names)


class StreamedTest(PotsTest):
    """Promises 9 and 83."""

    def test_without_dice(self):
        for many, most in itertools.combinations_with_replacement(range(25), 2):
            if most:
                node = streamed(many, most)
                self.assertIsInstance(node, Node)
                self.assertTrue(node.is_told())
                self.assertEqual(node.kept(), tuple(range(many)))

    def test_by_hand(self):
        self.assertEqual(shape(streamed(2, 1)), [(1, (1,)), (1, (0,))])
        self.assertEqual(shape(streamed(3, 2)), [(1, (1, 2)), (1, (0, 2)), (1, (0, 1))])
        self.assertEqual(shape(streamed(3, 1)), [(1, [(1, (2,)), (2, (1,))]), (1, [(1, (2,)), (2, (0,))])])
        self.assertEqual(shape(streamed(4, 2)), [(1, [(1, (1, 3)), (1, (2, 3)), (2, (1, 2))]),
                                                 (1, [(1, (2, 3)), (1, (0, 3)), (2, (0, 2))]),
                                                 (1, [(1, (1, 3)), (1, (0, 3)), (2, (0, 1))])])

    def test_dice_and_parts(self):
        for many, most in itertools.product(range(25), range(1, 25)):
            node = streamed(many, most)
            for number in range(most, many):
                self.assertEqual((node.is_told(), node.kept(), node.sides()), (False, None, number + 1))
                self.assertEqual([part for part, after in node.parts()], [1] * most + [number + 1 - most])
                node = node.after(number * 7 % (number + 1))
            self.assertTrue(node.is_told())
            self.assertEqual(len(node.kept()), min(many, most))

    def test_every_throw_against_a_pot(self):
        for many, most in ((0, 1), (1, 1), (2, 1), (5, 1), (3, 2), (5, 2), (4, 3), (6, 3), (6, 4), (6, 5), (3, 7)):
            for throws, kept, part in walk(streamed(many, most)):
                self.assertEqual(kept, self.kept_by_a_pot(many, most, throws))

    def test_some_throws_against_a_pot(self):
        chance = random.Random(83)
        for many, most in ((24, 1), (24, 2), (24, 12), (24, 23), (24, 24), (20, 7)):
            for case in range(20):
                throws = [chance.choice((chance.randrange(number + 1), 0, most - 1, most, number))
                          for number in range(most, many)]
                self.assertEqual(drawn(streamed(many, most), throws), self.kept_by_a_pot(many, most, throws))

    def kept_by_a_pot(self, many, most, throws):
        pot = filled(most, LETTERS[:many], throws)
        return tuple(sorted(LETTERS.index(name) for name in pot.things()))

    def test_each_set_is_kept_with_the_same_share(self):
        for many, most in ((0, 1), (1, 2), (3, 3), (4, 1), (5, 2), (6, 3), (6, 5)):
            kept = min(many, most)
            wished = [(some, (1, comb(many, kept))) for some in itertools.combinations(range(many), kept)]
            self.assertEqual(walked_table(streamed(many, most)), wished)
            self.assertEqual(table(streamed(many, most)), wished)

    def test_the_matrix(self):
        self.assertEqual(matrix_of(streamed(7, 3), list(range(7))),
                         [[(3, 7) if one == other else (1, 7) for other in range(7)] for one in range(7)])
        self.assertEqual(table(streamed(12, 11)), [(some, (1, 12)) for some in itertools.combinations(range(12), 11)])
        self.assertRefused(TooMany, table, streamed(24, 12))

    def test_what_is_no_stream(self):
        for thing in NO_WHOLE_NUMBERS + (-1, 25, 10 ** 20):
            self.assertRefused(NoThing, streamed, thing, 1)
            self.assertRefused(NoThing, streamed, thing, 24)
        for thing in NO_MOSTS:
            self.assertRefused(NoThing, streamed, 0, thing)
            self.assertRefused(NoThing, streamed, 24, thing)
        self.assertRefused(NoThing, streamed, None, None)

    def test_a_node_is_the_same_each_time(self):
        node = streamed(5, 2)
        before = shape(node)
        node.parts().clear()
        node.after(0).after(1)
        self.assertEqual(shape(node), before)
        self.assertEqual(shape(streamed(5, 2)), before)


class PouredTest(PotsTest):
    """Promises 5, 9 and 84."""

    def test_pots_with_nothing(self):
        for most in (1, 2, 24):
            node = poured(Pot(most), Pot(most))
            self.assertIsInstance(node, Node)
            self.assertEqual((node.is_told(), node.kept()), (True, ()))

    def test_one_pot_with_nothing(self):
        # No die tells the pot, and the last thing of it needs none either.
        for one, other in ((filled(2, "a"), Pot(2)), (Pot(2), filled(2, "a"))):
            self.assertEqual(shape(poured(one, other)), (0,))
        for one, other in ((filled(2, "abc"), Pot(2)), (Pot(2), filled(2, "abc"))):
            self.assertEqual(shape(poured(one, other)), [(1, (0, 1)), (1, (0, 1))])

    def test_by_hand(self):
        self.assertEqual(shape(poured(filled(1, "abc"), filled(1, "de"))), [(3, (0,)), (2, (1,))])
        self.assertEqual(shape(poured(filled(2, "a"), filled(2, "b"))), [(1, (0, 1)), (1, (0, 1))])
        # Three came into the one, of which two are there still; one came into the other.
        self.assertEqual(shape(poured(filled(2, "abc"), filled(2, "d"))),
                         [(3, [(1, [(2, (0, 1)), (1, (0, 2))]), (1, [(2, (0, 1)), (1, (1, 2))])]),
                          (1, [(1, (0, 2)), (1, (1, 2))])])
        self.assertEqual(shape(poured(filled(2, "d"), filled(2, "abc"))),
                         [(1, [(1, (0, 1)), (1, (0, 2))]),
                          (3, [(1, [(1, (0, 1)), (2, (1, 2))]), (1, [(1, (0, 2)), (2, (1, 2))])])])

    def test_a_side_for_each_thing_in_the_order_of_their_places(self):
        one, other = filled(4, LETTERS[:9]), filled(4, LETTERS[:7])
        node = poured(one, other)
        self.assertEqual((node.sides(), [many for many, after in node.parts()]), (16, [9, 7]))
        first, second = node.after(8), node.after(9)
        self.assertEqual([many for many, after in first.parts()], [1, 1, 1, 1])
        self.assertEqual([many for many, after in second.parts()], [1, 1, 1, 1])
        behind = first.after(1)
        self.assertEqual([many for many, after in behind.parts()], [8, 7])
        self.assertEqual([many for many, after in behind.after(0).parts()], [1, 1, 1])
        # By the places that are left: 0, 2, 3; then, of the other, 4 to 7; then 2 and 3.
        self.assertEqual(drawn(node, [8, 1, 7, 0, 7, 3, 6, 1]), (0, 1, 3, 7))
        # Where one alone is left of a pot, nothing is thrown for it.
        self.assertEqual(drawn(node, [15, 3, 14, 2, 13, 1, 12]), (4, 5, 6, 7))
        self.assertEqual(drawn(node, [0, 0, 0, 0, 0, 0, 0]), (0, 1, 2, 3))
        self.assertRefusedThrow(7, node, [0, 0, 0, 0, 0, 0, 0, 0])
        self.assertRefusedThrow(0, node, [16])
        self.assertRefusedThrow(1, node, [0, 4])

    def assertRefusedThrow(self, place, node, throws):
        with self.assertRaises(NoThrow) as caught:
            drawn(node, throws)
        self.assertEqual(caught.exception.place, place)

    def test_most_or_all_that_came_are_taken(self):
        for most, (one, other) in itertools.product((1, 2, 3), itertools.product(range(5), repeat=2)):
            for kept, part in ways(poured(filled(most, LETTERS[:one]), filled(most, LETTERS[:other]))):
                self.assertEqual(len(kept), min(most, one + other))
                self.assertLess(max(kept, default=0), max(min(one, most) + min(other, most), 1))

    def test_every_throw_against_the_words(self):
        for most, one, other in ((1, 0, 1), (1, 2, 3), (2, 1, 1), (2, 4, 1), (2, 1, 4), (2, 2, 3), (3, 1, 1), (3, 2, 2),
                                 (3, 4, 1)):
            for throws, kept, part in walk(poured(filled(most, LETTERS[:one]), filled(most, LETTERS[:other]))):
                self.assertEqual(kept, self.taken(most, [one, other], list(throws)))

    def taken(self, most, lefts, throws):
        there = [list(range(min(lefts[0], most))), [min(lefts[0], most) + place for place in range(min(lefts[1], most))]]
        kept = []
        while len(kept) < most and sum(lefts):
            pot = 0 if lefts[1] == 0 else 1 if lefts[0] == 0 else int(throws.pop(0) >= lefts[0])
            lefts[pot] -= 1
            kept.append(there[pot].pop(throws.pop(0) if len(there[pot]) > 1 else 0))
        self.assertEqual(throws, [])
        return tuple(sorted(kept))

    def test_large_pots(self):
        one, other = filled(24, ["a"] * 300), filled(24, ["b"] * 300)
        self.assertEqual(drawn(poured(one, other), [300, 0] + [0, 0] * 23), tuple(range(23)) + (24,))
        self.assertEqual(drawn(poured(one, other), [299, 23, 598, 23] + [0, 0] * 22), tuple(range(22)) + (23, 47))
        lasts = [side for number in range(24) for side in (599 - number, 23 - number)]
        self.assertEqual(drawn(poured(one, other), lasts[:-1]), tuple(range(24, 48)))
        self.assertRefused(TooMany, table, poured(one, other))

    def test_unlike_most(self):
        for one, other in ((Pot(1), Pot(2)), (filled(2, "abc"), filled(3, "abc")), (Pot(24), Pot(23))):
            self.assertRefused(NoThing, poured, one, other)
            self.assertRefused(NoThing, poured, other, one)

    def test_the_pots_stay_and_may_take_more_later(self):
        one, other = filled(2, "abc"), filled(2, "d")
        before = (seen(one), seen(other))
        node = poured(one, other)
        wished = shape(node)
        self.assertEqual((seen(one), seen(other)), before)
        fresh = poured(one, other)
        one.come("x", 0)
        other.come("y")
        other.come("z", 1)
        # Its dice are those of the pots as they were, also where they are first asked for now.
        self.assertEqual((shape(node), shape(fresh)), (wished, wished))
        self.assertNotEqual(shape(poured(one, other)), wished)
        self.assertEqual((one.came(), other.came(), other.things()), (4, 3, ["d", "z"]))


class IntoTest(PotsTest):
    """Promises 5, 9 and 85."""

    def test_by_hand(self):
        one, other = filled(3, "abcd", [2]), filled(3, "efgh", [3])
        self.assertEqual((one.things(), other.things()), (["a", "b", "d"], ["e", "f", "g"]))
        for kept, things in (((0, 1, 2), "abd"), ((0, 3, 5), "aeg"), ((3, 4, 5), "efg"), ((2, 3, 4), "def")):
            pot = into(one, other, kept)
            self.assertIsInstance(pot, Pot)
            self.assertEqual(seen(pot), (3, 8, 9, list(things)))

    def test_pots_with_nothing_and_with_few(self):
        self.assertEqual(seen(into(Pot(3), Pot(3), ())), (3, 0, 1, []))
        self.assertEqual(seen(into(filled(3, "a"), Pot(3), (0,))), (3, 1, 1, ["a"]))
        self.assertEqual(seen(into(Pot(3), filled(3, "a"), (0,))), (3, 1, 1, ["a"]))
        self.assertEqual(seen(into(filled(3, "a"), filled(3, "a"), (0, 1))), (3, 2, 1, ["a", "a"]))
        self.assertEqual(seen(into(filled(3, "ab"), filled(3, "c"), (0, 1, 2))), (3, 3, 4, ["a", "b", "c"]))

    def test_every_way_of_the_node(self):
        for most, one, other in ((1, 2, 3), (2, 1, 4), (2, 3, 3), (3, 2, 2), (3, 5, 1)):
            first, second = filled(most, LETTERS[:one]), filled(most, LETTERS[10:10 + other])
            things = first.things() + second.things()
            for kept, part in ways(poured(first, second)):
                self.assertEqual(seen(into(first, second, kept)),
                                 (most, one + other, 1 if one + other < most else one + other + 1,
                                  [things[place] for place in kept]))

    def test_unlike_most(self):
        for one, other in ((Pot(1), Pot(2)), (filled(2, "abc"), filled(3, "abc"))):
            self.assertRefused(NoThing, into, one, other, ())
            self.assertRefused(NoThing, into, other, one, (0,))

    def test_at_most_300_together(self):
        half = filled(2, ["a"] * 150)
        pot = into(half, filled(2, ["b"] * 150), (0, 3))
        self.assertEqual(seen(pot), (2, 300, 301, ["a", "b"]))
        self.assertRefused(TooMany, pot.come, "c")
        self.assertEqual(seen(into(pot, Pot(2), (0, 1))), (2, 300, 301, ["a", "b"]))
        for one, other in ((half, filled(2, ["b"] * 151)), (pot, filled(2, "c")), (filled(2, "c"), pot), (pot, pot)):
            before = (seen(one), seen(other))
            self.assertRefused(TooMany, into, one, other, (0, 1))
            self.assertEqual((seen(one), seen(other)), before)
            # The node alone is told all the same.
            self.assertEqual(poured(one, other).sides(), one.came() + other.came())

    def test_unlike_most_goes_first(self):
        self.assertRefused(NoThing, into, filled(2, ["a"] * 300), filled(3, ["a"] * 300), (0, 1))

    def test_the_two_pots_stay_as_they_are(self):
        one, other = filled(2, "abc"), filled(2, "de")
        before = (seen(one), seen(other))
        pot = into(one, other, (0, 2))
        self.assertEqual((seen(one), seen(other)), before)
        pot.come("x", 0)
        pot.come("y", 1)
        self.assertEqual((seen(one), seen(other), pot.things()), before + (["x", "y"],))
        one.come("p", 0)
        other.come("q", 1)
        self.assertEqual((seen(pot), one.things(), other.things()), ((2, 7, 8, ["x", "y"]), ["p", "b"], ["d", "q"]))

    def test_with_a_pot_that_lacks_things_too(self):
        one, other = filled(3, "a"), Pot(3)
        pot = into(one, other, (0,))
        pot.come("b")
        other.come("c")
        self.assertEqual((one.things(), other.things(), pot.things()), (["a"], ["c"], ["a", "b"]))

    def test_a_poured_pot_goes_on_like_any_other(self):
        pot, like = into(filled(2, "abc"), filled(2, "de"), (0, 3)), filled(2, "abcde")
        self.assertEqual(pot.next_sides(), like.next_sides())
        self.assertRefused(NoThrow, pot.come, "x", 6)
        pot.come("x", 5)
        pot.come("y", 0)
        self.assertEqual(seen(pot), (2, 7, 8, ["y", "e"]))
        self.assertEqual(shape(poured(pot, filled(2, "z"))), shape(poured(filled(2, "a" * 7), filled(2, "z"))))

    def test_each_set_is_kept_with_the_same_share(self):
        for most, one, other in itertools.product((1, 2, 3), range(5), range(4)):
            names = LETTERS[:one + other]
            self.assertEven(all_poured(all_pots(most, names[:one]), all_pots(most, names[one:])), most, names)

    def test_also_behind_pouring_twice_in_unlike_orders(self):
        for most, cut, end, many in ((1, 2, 3, 6), (2, 1, 3, 6), (2, 3, 4, 6), (2, 0, 3, 5), (3, 1, 2, 4), (3, 2, 4, 6)):
            names = LETTERS[:many]
            a, b, c = (all_pots(most, part) for part in (names[:cut], names[cut:end], names[end:]))
            for one, other, last in itertools.permutations((a, b, c)):
                self.assertEven(all_poured(all_poured(one, other), last), most, names)
            self.assertEven(all_poured(a, all_poured(b, c)), most, names)

    def test_also_where_more_come_behind_pouring(self):
        for most in (1, 2, 3):
            pots = all_behind(all_poured(all_pots(most, "abc"), all_pots(most, "d")), "ef")
            self.assertEven(pots, most, "abcdef")
            self.assertEven(all_poured(pots, all_pots(most, "g")), most, "abcdefg")


if __name__ == "__main__":
    unittest.main()
