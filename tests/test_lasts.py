import copy
import itertools
import random
import unittest

from fewspeak.errors import NoThing, SpeakError
from fewspeak.lasts import Last
from walks import NO_WHOLE_NUMBERS

BOUND = 10 ** 9
NO_NAMES = (None, True, 0, 1, 1.5, "", "A", "aB", "a b", "a1", "a-b", " a", "a ", "abcdefghi", b"a", ("a",), ["a"], {},
            {"a"}, object(), str)
LETTERS = "abcdefghijklmnopqrstuvwxyz"


def named(numbers):
    """Things with these numbers, whose names are unlike: tuples (thing, number)."""
    return [(LETTERS[place // 26 % 26] + LETTERS[place % 26], number) for place, number in enumerate(numbers)]


def filled(wide, most, stream):
    last = Last(wide, most)
    for thing, number in stream:
        last.come(thing, number)
    return last


def seen(last):
    """All that a Last tells."""
    return (last.came(), last.sample(), last.candidates())


def greater(stream, one, other):
    """Whether the thing at the place one is greater than the one at the place other."""
    return stream[one][1] > stream[other][1] or (stream[one][1] == stream[other][1] and one < other)


def sample_by_all(wide, most, stream):
    """Each of the last things compared with each other one of them."""
    window = range(max(0, len(stream) - wide), len(stream))
    return [stream[one] for one in window if sum(greater(stream, other, one) for other in window) < most]


def candidates_by_all(wide, most, stream):
    window = range(max(0, len(stream) - wide), len(stream))
    return [stream[one] for one in window
            if sum(greater(stream, other, one) for other in window if other > one) < most]


class LastsTest(unittest.TestCase):
    def assertRefused(self, kind, ask, *things):
        with self.assertRaises(SpeakError) as caught:
            ask(*things)
        self.assertIs(type(caught.exception), kind)

    def assertTells(self, last, wide, most, stream):
        wished = (len(stream), sample_by_all(wide, most, stream), candidates_by_all(wide, most, stream))
        self.assertEqual(seen(last), wished)

    def assertFollows(self, wide, most, stream):
        """What is told is right behind each thing that comes."""
        last = Last(wide, most)
        for many in range(len(stream) + 1):
            self.assertTells(last, wide, most, stream[:many])
            if many < len(stream):
                self.assertIsNone(last.come(*stream[many]))


class MakingTest(LastsTest):
    """Promises 2, 6 and 86."""

    def test_a_new_one(self):
        for wide, most in itertools.product((1, 2, 24, 25, 99, 100), (1, 2, 23, 24)):
            self.assertEqual(seen(Last(wide, most)), (0, [], []))

    def test_what_is_no_wide(self):
        for thing in NO_WHOLE_NUMBERS + (0, -1, 101, 10 ** 20):
            self.assertRefused(NoThing, Last, thing, 1)
            self.assertRefused(NoThing, Last, thing, 24)

    def test_what_is_no_most(self):
        for thing in NO_WHOLE_NUMBERS + (0, -1, 25, 100, 10 ** 20):
            self.assertRefused(NoThing, Last, 1, thing)
            self.assertRefused(NoThing, Last, 100, thing)
        self.assertRefused(NoThing, Last, None, None)


class ComingTest(LastsTest):
    """Promises 2, 5, 6, 9 and 86."""

    def test_by_hand(self):
        last = Last(3, 2)
        last.come("ann", 5)
        self.assertEqual(seen(last), (1, [("ann", 5)], [("ann", 5)]))
        last.come("bea", 7)
        self.assertEqual(seen(last), (2, [("ann", 5), ("bea", 7)], [("ann", 5), ("bea", 7)]))
        last.come("cleo", 5)
        self.assertEqual(seen(last), (3, [("ann", 5), ("bea", 7)], [("ann", 5), ("bea", 7), ("cleo", 5)]))
        last.come("dora", 6)
        self.assertEqual(seen(last), (4, [("bea", 7), ("dora", 6)], [("bea", 7), ("cleo", 5), ("dora", 6)]))
        last.come("eve", 6)
        self.assertEqual(seen(last), (5, [("dora", 6), ("eve", 6)], [("dora", 6), ("eve", 6)]))
        last.come("fay", 0)
        self.assertEqual(seen(last), (6, [("dora", 6), ("eve", 6)], [("dora", 6), ("eve", 6), ("fay", 0)]))

    def test_a_wide_of_1_tells_the_last_thing_alone(self):
        for most in (1, 2, 24):
            last = Last(1, most)
            for thing, number in named((5, 4, 9, 9, 0, BOUND)):
                last.come(thing, number)
                self.assertEqual((last.sample(), last.candidates()), ([(thing, number)], [(thing, number)]))

    def test_a_most_of_1(self):
        last = filled(100, 1, named((3, 8, 5, 8, 2)))
        self.assertEqual(last.sample(), [("ab", 8)])
        self.assertEqual(last.candidates(), [("ab", 8), ("ad", 8), ("ae", 2)])

    def test_of_the_same_number_the_earlier_one_is_the_greater_one(self):
        last = filled(5, 2, named((4, 4, 4, 4)))
        self.assertEqual(last.sample(), named((4, 4)))
        self.assertEqual(last.candidates(), named((4, 4, 4, 4)))
        last.come("zz", 5)
        self.assertEqual(last.sample(), [("aa", 4), ("zz", 5)])
        self.assertEqual(last.candidates(), named((4, 4, 4, 4)) + [("zz", 5)])

    def test_numbers_that_rise_and_fall(self):
        for wide, most in ((1, 1), (2, 1), (4, 2), (5, 5), (3, 24), (100, 24), (100, 1), (24, 23)):
            rising, falling = named(range(60)), named(range(60, 0, -1))
            self.assertEqual(filled(wide, most, rising).sample(), rising[-min(wide, most):])
            self.assertEqual(filled(wide, most, rising).candidates(), rising[-min(wide, most):])
            window = falling[-min(wide, 60):]
            self.assertEqual(filled(wide, most, falling).sample(), window[:most])
            self.assertEqual(filled(wide, most, falling).candidates(), window)

    def test_fewer_as_many_and_more_things_than_wide_and_than_most(self):
        chance = random.Random(86)
        for wide, most in itertools.product((1, 2, 3, 5), (1, 2, 3, 4, 6, 24)):
            for high in (0, 1, 3, BOUND):
                self.assertFollows(wide, most, named([chance.randint(0, high) for place in range(12)]))

    def test_the_greatest_wide_and_most(self):
        chance = random.Random(100)
        for wide, most in ((100, 1), (100, 24), (99, 23), (24, 24), (25, 24), (23, 24)):
            for high in (1, 9, BOUND):
                stream = named([chance.randint(0, high) for place in range(240)])
                last = Last(wide, most)
                for many, (thing, number) in enumerate(stream, start=1):
                    last.come(thing, number)
                    if many % 23 == 0 or abs(many - wide) < 3 or abs(many - most) < 3:
                        self.assertTells(last, wide, most, stream[:many])

    def test_all_short_streams(self):
        for wide, most in itertools.product((1, 2, 3, 4), (1, 2, 3)):
            for numbers in itertools.product((0, 1, 2), repeat=5):
                self.assertTells(filled(wide, most, named(numbers)), wide, most, named(numbers))

    def test_the_bounds_of_numbers(self):
        stream = named((0, BOUND, 0, BOUND, 1, BOUND - 1))
        self.assertFollows(3, 2, stream)
        self.assertFollows(100, 1, stream)

    def test_names_that_come_again(self):
        last = filled(3, 2, [("ann", 5), ("ann", 5), ("bea", 1), ("ann", 4)])
        self.assertEqual(seen(last), (4, [("ann", 5), ("ann", 4)], [("ann", 5), ("bea", 1), ("ann", 4)]))
        chance = random.Random(87)
        for case in range(30):
            stream = [(chance.choice(("ann", "bea")), chance.randrange(3)) for place in range(9)]
            self.assertFollows(chance.randint(1, 5), chance.randint(1, 4), stream)

    def test_what_is_no_thing(self):
        for last in (Last(3, 2), filled(3, 2, named((4, 4, 9, 1)))):
            before = seen(last)
            for thing in NO_NAMES:
                self.assertRefused(NoThing, last.come, thing, 5)
                self.assertRefused(NoThing, last.come, thing, -1)
            for number in NO_WHOLE_NUMBERS + (-1, BOUND + 1, 10 ** 20):
                self.assertRefused(NoThing, last.come, "ann", number)
            self.assertEqual(seen(last), before)

    def test_names_of_one_to_eight_letters(self):
        last = filled(9, 9, [("a", 1), ("z", 1), ("abcdefgh", 1), ("zzzzzzzz", 1)])
        self.assertEqual(last.sample(), [("a", 1), ("z", 1), ("abcdefgh", 1), ("zzzzzzzz", 1)])

    def test_a_refusal_changes_nothing(self):
        one, other = filled(3, 2, named((4, 7))), filled(3, 2, named((4, 7)))
        for thing, number in (("ann", 3), ("bea", 9), ("cleo", 0), ("dora", 9)):
            for wrong in (("ann", True), ("Ann", 9), ("ann", BOUND + 1), (None, None), ("ann", -1)):
                self.assertRefused(NoThing, one.come, *wrong)
            one.come(thing, number)
            other.come(thing, number)
            self.assertEqual(seen(one), seen(other))

    def test_two_side_by_side(self):
        one, other = Last(2, 1), Last(2, 1)
        one.come("ann", 4)
        self.assertEqual((seen(one), seen(other)), ((1, [("ann", 4)], [("ann", 4)]), (0, [], [])))
        other.come("bea", 1)
        other.come("cleo", 6)
        self.assertEqual((seen(one), seen(other)), ((1, [("ann", 4)], [("ann", 4)]), (2, [("cleo", 6)], [("cleo", 6)])))

    def test_the_lists_told_are_the_askers_own(self):
        last = filled(4, 2, named((4, 7, 5)))
        before = seen(last)
        for tell in (last.sample, last.candidates):
            told = tell()
            told[0] = ("zz", 99)
            told.append(("yy", 0))
            self.assertEqual(seen(last), before)
            tell().clear()
            self.assertEqual(seen(last), before)
        kept = seen(last)
        last.come("zz", 9)
        self.assertEqual(kept, before)
        self.assertNotEqual(seen(last), before)


class CandidatesTest(LastsTest):
    """Promises 9 and 87."""

    def streams(self):
        chance = random.Random(87)
        for case in range(60):
            wide, most = chance.choice((1, 2, 3, 5, 8)), chance.choice((1, 2, 3, 6, 24))
            stream = named([chance.choice((0, 1, 2, 5, BOUND)) for place in range(chance.randrange(12))])
            yield wide, most, stream

    def test_the_sample_are_some_of_the_candidates(self):
        for wide, most, stream in self.streams():
            last = filled(wide, most, stream)
            places = [last.candidates().index(pair) for pair in last.sample()]
            self.assertEqual(places, sorted(set(places)))

    def test_each_candidate_is_in_the_sample_at_some_time_where_only_0_comes(self):
        for wide, most, stream in self.streams():
            last = filled(wide, most, stream)
            left = last.candidates()
            for place in range(wide + 1):
                sample = last.sample()
                left = [pair for pair in left if pair not in sample]
                last.come("zero", 0)
            self.assertEqual(left, [])

    def test_what_is_no_candidate_is_never_again_in_the_sample(self):
        chance = random.Random(88)
        for wide, most, stream in self.streams():
            last = filled(wide, most, stream)
            candidates = last.candidates()
            out = [pair for pair in stream if pair not in candidates]
            for high in (0, 1, BOUND):
                after = copy.deepcopy(last)
                for place in range(wide + 2):
                    after.come("more", chance.randint(0, high))
                    told = after.sample() + after.candidates()
                    self.assertEqual([pair for pair in out if pair in told], [])

    def test_as_few_candidates_as_can_be(self):
        # Each one is needed (as it comes into the sample), and no one else is: so a falling stream has all of them.
        self.assertEqual(len(filled(100, 1, named(range(200, 0, -1))).candidates()), 100)
        self.assertEqual(len(filled(100, 1, named(range(200))).candidates()), 1)
        self.assertEqual(len(filled(100, 24, named(range(200))).candidates()), 24)


if __name__ == "__main__":
    unittest.main()
