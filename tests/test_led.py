import copy
import itertools
import random
import unittest

from fewspeak.errors import NoBounds, SpeakError
from fewspeak.led import is_led, led
from walks import NO_WHOLE_NUMBERS

MOST = 10 ** 6
MOST_SUM = 24 * 10 ** 6
NO_LISTS = (None, True, 0, 1, 1.5, "", "abc", (), (1,), {}, {1}, object(), list, range(2), iter([]))


def sums(weights, units, side, many):
    """What the weights of each row (side 0) or column (side 1) come to."""
    return [sum(weight for weight, unit in zip(weights, units) if unit[side] == number) for number in range(many)]


def are_led(rows, columns, units, weights):
    return (len(weights) == len(units) and all(unit[2] <= weight <= unit[3] for weight, unit in zip(weights, units))
            and sums(weights, units, 0, len(rows)) == rows and sums(weights, units, 1, len(columns)) == columns)


def all_weights(units):
    return itertools.product(*(range(low, high + 1) for row, column, low, high in units))


def shows(rows, columns, units, word, some, others):
    """The sums of promise 92 themselves."""
    outer = [unit for unit in units if unit[0] in some and unit[1] not in others]
    inner = [unit for unit in units if unit[1] in others and unit[0] not in some]
    of_rows, of_columns = sum(rows[number] for number in some), sum(columns[number] for number in others)
    if word == "over":
        return of_rows > of_columns + sum(unit[3] for unit in outer) - sum(unit[2] for unit in inner)
    return of_columns > of_rows + sum(unit[3] for unit in inner) - sum(unit[2] for unit in outer)


def subsets(many):
    for some in range(many + 1):
        yield from (list(numbers) for numbers in itertools.combinations(range(many), some))


def drawn_units(chance, rows, columns, many, high):
    """Units in these many rows and columns, whose bounds lie at, between and on both ends."""
    units = []
    for place in range(many if rows and columns else 0):
        low = chance.choice((0, high, chance.randint(0, high)))
        units.append((chance.randrange(rows), chance.randrange(columns), low,
                      chance.choice((low, high, chance.randint(low, high)))))
    return units


def led_sums(chance, rows, columns, units):
    """Sums that weights drawn within the bounds come to."""
    weights = [chance.randint(low, high) for row, column, low, high in units]
    return sums(weights, units, 0, rows), sums(weights, units, 1, columns)


def spoilt(chance, rows, columns):
    """The sums with one put up, put down, or moved to another row or column; or both moved, or left as they are."""
    rows, columns = list(rows), list(columns)
    for line in chance.sample((rows, columns), chance.randint(0, 2)):
        if line:
            one, other = chance.randrange(len(line)), chance.randrange(len(line))
            by = min(chance.choice((0, 1, 1, 2)), line[one])
            line[one] -= by
            if chance.random() < 0.8:
                line[other] += by
    if rows and chance.random() < 0.1:
        rows[chance.randrange(len(rows))] += 1
    return rows, columns


class LedsTest(unittest.TestCase):
    def assertRefused(self, ask, *things):
        with self.assertRaises(SpeakError) as caught:
            ask(*things)
        self.assertIs(type(caught.exception), NoBounds)

    def assertRight(self, rows, columns, units):
        """What is told is right by the document's own words; the word that was told."""
        before = copy.deepcopy((rows, columns, units))
        told = led(rows, columns, units)
        self.assertIs(type(told), tuple)
        if told[0] == "weights":
            self.assertEqual(len(told), 2)
            self.assertIs(type(told[1]), list)
            self.assertTrue(are_led(rows, columns, units, told[1]), (rows, columns, units, told))
        else:
            self.assertEqual((told[0], len(told)), ("none", 4))
            self.assertIn(told[1], ("over", "under"))
            for numbers, many in ((told[2], len(rows)), (told[3], len(columns))):
                self.assertIs(type(numbers), list)
                self.assertEqual(numbers, [number for number in range(many) if number in numbers])
            self.assertTrue(shows(rows, columns, units, *told[1:]), (rows, columns, units, told))
        self.assertIs(is_led(rows, columns, units, told), True)
        self.assertEqual(led(rows, columns, units), told)
        self.assertEqual((rows, columns, units), before)
        return told[0]


class LedTest(LedsTest):
    """Promises 5, 9, 91 and 92."""

    def test_without_units(self):
        for rows, columns in itertools.product(([], [0], [0] * 6), repeat=2):
            self.assertEqual(led(rows, columns, []), ("weights", []))
        self.assertEqual(led([3], [], []), ("none", "over", [0], []))
        self.assertEqual(led([], [3], []), ("none", "under", [], [0]))
        for rows, columns in (([3], [3]), ([0, 3], [3, 0]), ([3] * 6, [3] * 6), ([0, 1], [0]), ([MOST_SUM], [MOST_SUM])):
            self.assertEqual(self.assertRight(rows, columns, []), "none")

    def test_one_unit(self):
        for low, high in ((0, 0), (0, 5), (2, 5), (5, 5), (0, MOST), (MOST, MOST)):
            for wished in (0, 1, 2, 3, 5, 6, MOST - 1, MOST, MOST + 1, MOST_SUM):
                told = led([wished], [wished], [(0, 0, low, high)])
                self.assertRight([wished], [wished], [(0, 0, low, high)])
                if low <= wished <= high:
                    self.assertEqual(told, ("weights", [wished]))
                else:
                    self.assertEqual(told[0], "none")

    def test_by_hand(self):
        units = [(0, 0, 0, 4), (0, 1, 0, 4), (1, 0, 0, 4), (1, 1, 0, 4)]
        for rows, columns in (([5, 3], [6, 2]), ([8, 8], [8, 8]), ([0, 0], [0, 0]), ([4, 0], [0, 4])):
            self.assertEqual(self.assertRight(rows, columns, units), "weights")
        for rows, columns in (([9, 0], [5, 4]), ([5, 3], [8, 1]), ([8, 8], [9, 7]), ([1, 0], [0, 0])):
            self.assertEqual(self.assertRight(rows, columns, units), "none")

    def test_only_some_rows_and_columns_together_show_it(self):
        # Each row and each column could have its sum by itself.
        units = [(0, 0, 0, 1), (0, 1, 0, 9), (1, 0, 0, 9), (1, 1, 0, 1)]
        self.assertEqual(self.assertRight([5, 5], [5, 5], units), "weights")
        self.assertEqual(self.assertRight([9, 2], [2, 9], units), "weights")
        self.assertEqual(self.assertRight([2, 9], [2, 9], units), "none")
        self.assertEqual(self.assertRight([6, 1], [6, 1], units), "none")

    def test_weights_have_to_go_back_once_more(self):
        # A unit in the way has to be raised and lowered again on other ways.
        units = [(0, 0, 0, 1), (0, 1, 0, 1), (1, 0, 0, 1), (1, 2, 0, 1), (2, 1, 0, 1), (2, 2, 1, 2)]
        chance = random.Random(92)
        for weights in all_weights(units):
            self.assertEqual(self.assertRight(sums(weights, units, 0, 3), sums(weights, units, 1, 3), units), "weights")
        for case in range(200):
            rows, columns = spoilt(chance, *led_sums(chance, 3, 3, units))
            self.assertRight(rows, columns, units)

    def test_lows_alone_are_too_much(self):
        self.assertEqual(self.assertRight([2], [2], [(0, 0, 3, 5)]), "none")
        self.assertEqual(self.assertRight([2, 4], [6], [(0, 0, 3, 5), (1, 0, 0, 9)]), "none")
        self.assertEqual(self.assertRight([6], [2, 4], [(0, 0, 3, 5), (0, 1, 0, 9)]), "none")
        self.assertEqual(self.assertRight([3, 3], [6], [(0, 0, 3, 5), (1, 0, 0, 9)]), "weights")

    def test_rows_and_columns_in_which_none_stands(self):
        units = [(1, 2, 0, 9), (1, 2, 3, 5), (3, 4, 0, 2)]
        self.assertEqual(self.assertRight([0, 8, 0, 2, 0, 0], [0, 0, 8, 0, 2], units), "weights")
        self.assertEqual(self.assertRight([0, 8, 1, 1, 0, 0], [0, 0, 8, 0, 2], units), "none")
        self.assertEqual(self.assertRight([0, 8, 0, 2, 0, 0], [1, 0, 7, 0, 2], units), "none")

    def test_several_units_in_one_row_and_column(self):
        units = [(0, 0, 1, 2)] * 24
        for wished in (0, 23, 24, 25, 37, 47, 48, 49):
            word = self.assertRight([wished], [wished], units)
            self.assertEqual(word, "weights" if 24 <= wished <= 48 else "none")
        self.assertEqual(led([MOST_SUM], [MOST_SUM], [(0, 0, MOST, MOST)] * 24), ("weights", [MOST] * 24))
        self.assertEqual(led([MOST_SUM], [MOST_SUM], [(0, 0, 0, MOST)] * 24), ("weights", [MOST] * 24))

    def test_whole_sums_that_are_unlike(self):
        units = [(0, 0, 0, 9), (1, 1, 0, 9)]
        self.assertEqual(led([5, 5], [5, 4], units), ("none", "over", [0, 1], [0, 1]))
        self.assertEqual(led([5, 4], [5, 5], units), ("none", "under", [0, 1], [0, 1]))
        for rows, columns in (([5, 5], [5, 4]), ([5, 4], [5, 5]), ([1, 0], [0, 0]), ([0, 0], [0, 1])):
            self.assertEqual(self.assertRight(rows, columns, units), "none")

    def test_against_all_weights(self):
        chance = random.Random(91)
        found = {"weights": 0, "none": 0}
        for case in range(1500):
            many_rows, many_columns = chance.randint(0, 4), chance.randint(0, 4)
            units = drawn_units(chance, many_rows, many_columns, chance.randint(0, 6), chance.choice((1, 2, 3)))
            rows, columns = spoilt(chance, *led_sums(chance, many_rows, many_columns, units))
            told = self.assertRight(rows, columns, units)
            found[told] += 1
            can_be = any(are_led(rows, columns, units, weights) for weights in all_weights(units))
            self.assertEqual(told, "weights" if can_be else "none", (rows, columns, units))
        self.assertGreater(min(found.values()), 200)

    def test_sums_that_drawn_weights_come_to(self):
        chance = random.Random(24)
        for case in range(300):
            many_rows, many_columns = chance.randint(1, 6), chance.randint(1, 6)
            units = drawn_units(chance, many_rows, many_columns, chance.choice((0, 1, 12, 23, 24)), chance.choice((3, MOST)))
            rows, columns = led_sums(chance, many_rows, many_columns, units)
            self.assertEqual(self.assertRight(rows, columns, units), "weights")
            self.assertRight(*spoilt(chance, rows, columns), units)

    def test_24_units_in_six_rows_and_columns(self):
        chance = random.Random(6)
        for case in range(100):
            units = [(number % 6, (number + number // 6) % 6, 0, MOST) for number in range(24)]
            rows, columns = led_sums(chance, 6, 6, units)
            self.assertEqual(self.assertRight(rows, columns, units), "weights")
            rows, columns = spoilt(chance, rows, columns)
            self.assertRight(rows, columns, units)

    def test_what_is_told_is_the_askers_own(self):
        units = [(0, 0, 0, 4), (0, 1, 0, 4)]
        for rows, columns in (([5], [3, 2]), ([5], [5, 0]), ([5], [3, 3])):
            before = copy.deepcopy(led(rows, columns, units))
            for line in led(rows, columns, units):
                if isinstance(line, list):
                    line.append(99)
            self.assertEqual(led(rows, columns, units), before)

    def test_changing_what_was_handed_in_changes_nothing_told(self):
        rows, columns, units = [5], [3, 2], [(0, 0, 0, 4), (0, 1, 0, 4)]
        told = led(rows, columns, units)
        rows[0], columns[0], units[0] = 9, 9, (0, 0, 9, 9)
        self.assertEqual(told, ("weights", [3, 2]))
        rows, columns = [9], [3, 3]
        told = led(rows, columns, [])
        rows.clear()
        columns.clear()
        self.assertEqual(told, ("none", "over", [0], [0, 1]))


class IsLedTest(LedsTest):
    """Promises 5, 92 and 93."""

    def setUp(self):
        self.units = [(0, 0, 1, 4), (0, 1, 0, 4), (1, 1, 2, 6)]
        self.asked = ([5, 3], [4, 4], self.units)

    def test_weights(self):
        self.assertIs(is_led(*self.asked, ("weights", [4, 1, 3])), True)
        for weights in ([], [4], [4, 1], [4, 1, 3, 0], [4, 1, 3, 3], [3, 1, 4], [5, 0, 3], [4, 1, 4], [4, 0, 3], [0, 5, 3],
                        [4, -1, 5], [-4, -1, -3], [4, 1, 10 ** 30], [3, 2, 2]):
            self.assertIs(is_led(*self.asked, ("weights", weights)), False, weights)

    def test_weights_that_miss_one_sum_or_one_bound_alone(self):
        units = [(0, 0, 0, 4), (0, 1, 0, 4), (1, 0, 0, 4), (1, 1, 0, 4)]
        self.assertIs(is_led([4, 4], [4, 4], units, ("weights", [1, 3, 3, 1])), True)
        self.assertIs(is_led([4, 4], [4, 4], units, ("weights", [1, 3, 1, 3])), False)
        self.assertIs(is_led([4, 4], [4, 4], units, ("weights", [1, 1, 3, 3])), False)
        self.assertIs(is_led([4, 4], [4, 4], units, ("weights", [5, -1, -1, 5])), False)
        self.assertIs(is_led([4, 4, 0], [4, 4], units, ("weights", [1, 3, 3, 1])), True)
        self.assertIs(is_led([4, 4, 1], [4, 4], units, ("weights", [1, 3, 3, 1])), False)
        self.assertIs(is_led([4, 4], [4, 4, 1], units, ("weights", [1, 3, 3, 1])), False)

    def test_all_weights_and_some_beyond_the_bounds(self):
        for weights in itertools.product(range(-1, 8), repeat=3):
            self.assertIs(is_led(*self.asked, ("weights", list(weights))), are_led(*self.asked, list(weights)))

    def test_rows_and_columns_by_hand(self):
        units = [(0, 0, 0, 1), (0, 1, 0, 9), (1, 0, 0, 9), (1, 1, 0, 1)]
        asked = ([2, 9], [2, 9], units)
        self.assertIs(is_led(*asked, ("none", "over", [1], [0])), True)
        self.assertIs(is_led(*asked, ("none", "under", [0], [1])), True)
        self.assertIs(is_led(*asked, ("none", "under", [1], [0])), False)
        self.assertIs(is_led(*asked, ("none", "over", [0], [1])), False)
        self.assertIs(is_led(*asked, ("none", "over", [], [])), False)
        self.assertIs(is_led(*asked, ("none", "over", [0, 1], [0, 1])), False)
        self.assertIs(is_led(*asked, ("weights", [0, 2, 2, 7])), False)

    def test_lists_that_do_not_rise(self):
        asked = ([5, 5, 5], [4, 5, 5], [])
        self.assertIs(is_led(*asked, ("none", "over", [0, 1, 2], [0, 1, 2])), True)
        for some in ([1, 0, 2], [0, 2, 1], [0, 0, 1, 2], [0, 1, 2, 2], [2, 1, 0]):
            self.assertIs(is_led(*asked, ("none", "over", some, [0, 1, 2])), False)
            self.assertIs(is_led(*asked, ("none", "over", [0, 1, 2], some)), False)
        self.assertIs(is_led(*asked, ("none", "over", [0, 0], [])), False)
        self.assertIs(is_led(*asked, ("none", "under", [], [1, 1])), False)

    def test_rows_and_columns_that_there_are_not(self):
        asked = ([5, 5], [4, 5, 0], [])
        self.assertIs(is_led(*asked, ("none", "over", [0, 1], [0, 1])), True)
        for number in (-1, -2, 2, 3, 10 ** 20):
            for some in ([0, 1, number], [number, 0, 1], [number]):
                self.assertIs(is_led(*asked, ("none", "over", some, [0])), False)
        for number in (-1, -3, 3, 4, 10 ** 20):
            for others in ([0, 1, number], [number, 0, 1], [number]):
                self.assertIs(is_led(*asked, ("none", "under", [], others)), False)

    def test_the_least_and_the_first_sum_that_do_not_do(self):
        for wished in range(11):
            asked = ([wished, 3], [4, 4], self.units)
            self.assertIs(is_led(*asked, ("none", "over", [0], [])), wished > 8)
            self.assertIs(is_led(*asked, ("none", "under", [0], [])), wished < 1)
            self.assertIs(is_led(*asked, ("none", "over", [0], [1])), wished > 4 + 4 - 2)
            self.assertIs(is_led(*asked, ("none", "under", [0], [0])), wished < 4)
            self.assertIs(is_led(*asked, ("none", "over", [0, 1], [0, 1])), wished + 3 > 8)
            self.assertIs(is_led(*asked, ("none", "under", [0, 1], [0, 1])), wished + 3 < 8)

    def test_all_rows_and_columns_by_either_word(self):
        chance = random.Random(93)
        held = {"over": 0, "under": 0}
        for case in range(80):
            many_rows, many_columns = chance.randint(0, 3), chance.randint(0, 3)
            units = drawn_units(chance, many_rows, many_columns, chance.randint(0, 5), 2)
            rows, columns = spoilt(chance, *led_sums(chance, many_rows, many_columns, units))
            can_be = any(are_led(rows, columns, units, weights) for weights in all_weights(units))
            for some, others, word in itertools.product(subsets(many_rows), subsets(many_columns), ("over", "under")):
                holds = shows(rows, columns, units, word, some, others)
                self.assertIs(is_led(rows, columns, units, ("none", word, some, others)), holds)
                # What shows that there are none is right only where there are none.
                self.assertFalse(holds and can_be)
                held[word] += holds
        self.assertGreater(min(held.values()), 30)

    def test_another_word(self):
        for word in ("", "above", "OVER", "weights"):
            self.assertIs(is_led([5], [4], [], ("none", word, [0], [0])), False)
            self.assertIs(is_led([4], [5], [], ("none", word, [0], [0])), False)

    def test_what_is_handed_in_stays_as_it_is(self):
        for told in (("weights", [4, 1, 3]), ("weights", [1]), ("none", "over", [0, 1], [1]), ("none", "under", [1, 0], [9])):
            before = copy.deepcopy((self.asked, told))
            is_led(*self.asked, told)
            self.assertEqual((self.asked, told), before)


class NoBoundsTest(LedsTest):
    """Promises 2, 6, 91 and 94."""

    def assertNoBounds(self, rows, columns, units):
        before = repr((rows, columns, units))
        self.assertRefused(led, rows, columns, units)
        for told in (("weights", []), ("weights", [1]), ("none", "over", [0], []), ("none", "under", [], [])):
            self.assertRefused(is_led, rows, columns, units, told)
        self.assertEqual(repr((rows, columns, units)), before)

    def test_what_is_no_list(self):
        for thing in NO_LISTS:
            self.assertNoBounds(thing, [], [])
            self.assertNoBounds([], thing, [])
            self.assertNoBounds([], [], thing)
            self.assertNoBounds(thing, [1], [])
            self.assertNoBounds([1], thing, [])
            self.assertNoBounds([1], [1], thing)
        self.assertNoBounds(None, None, None)

    def test_seven_sums(self):
        self.assertEqual(led([0] * 6, [0] * 6, []), ("weights", []))
        self.assertNoBounds([0] * 7, [0], [])
        self.assertNoBounds([0], [0] * 7, [])
        self.assertNoBounds([0] * 100, [0] * 100, [])

    def test_what_is_no_sum(self):
        for thing in NO_WHOLE_NUMBERS + (-1, MOST_SUM + 1, 10 ** 20, -10 ** 20):
            self.assertNoBounds([thing], [1], [])
            self.assertNoBounds([1], [thing], [])
            self.assertNoBounds([1, 1, thing], [3], [])
            self.assertNoBounds([3], [1, thing, 1], [])
            self.assertNoBounds([thing], [thing], [(0, 0, 0, 9)])

    def test_25_units(self):
        self.assertEqual(led([24], [24], [(0, 0, 1, 1)] * 24), ("weights", [1] * 24))
        self.assertNoBounds([25], [25], [(0, 0, 1, 1)] * 25)
        self.assertNoBounds([0], [0], [(0, 0, 0, 0)] * 100)

    def test_what_is_no_unit(self):
        good = (0, 0, 0, 4)
        for thing in NO_WHOLE_NUMBERS + (0, 1, "abcd", [0, 0, 0, 4], (0, 0, 0), (0, 0, 0, 4, 4), (good,), good[:3]):
            self.assertNoBounds([4], [4], [thing])
            self.assertNoBounds([4], [4], [good, good, thing])

    def test_what_is_no_number_of_a_unit(self):
        for place in range(4):
            for thing in NO_WHOLE_NUMBERS + (-1, MOST + 1, 10 ** 20):
                unit = (0, 0, 0, 4)[:place] + (thing,) + (0, 0, 0, 4)[place + 1:]
                self.assertNoBounds([4], [4], [unit])
                self.assertNoBounds([4], [4], [(0, 0, 0, 4), unit])

    def test_rows_and_columns_that_there_are_not(self):
        self.assertRight([4, 0], [0, 0, 4], [(1, 2, 0, 4), (0, 2, 4, 4)])
        for row, column in ((2, 0), (0, 3), (3, 0), (0, 4), (-1, 0), (0, -1), (6, 6)):
            self.assertNoBounds([4, 0], [0, 0, 4], [(row, column, 0, 4)])
        self.assertNoBounds([], [], [(0, 0, 0, 0)])
        self.assertNoBounds([0], [], [(0, 0, 0, 0)])
        self.assertNoBounds([], [0], [(0, 0, 0, 0)])

    def test_a_low_above_the_high(self):
        for low, high in ((1, 0), (5, 4), (MOST, MOST - 1), (MOST, 0), (MOST + 1, MOST + 2), (-2, -1), (-1, 4), (0, MOST + 1)):
            self.assertNoBounds([4], [4], [(0, 0, low, high)])

    def test_the_bounds_themselves(self):
        for low, high in ((0, 0), (0, MOST), (MOST, MOST), (4, 4), (3, 4)):
            self.assertRight([4, MOST_SUM], [MOST_SUM, 0], [(0, 0, low, high), (1, 1, low, high)])


if __name__ == "__main__":
    unittest.main()
