import copy
import itertools
import random
import unittest
from fractions import Fraction
from unittest import mock

from fewspeak.errors import NoAnswers, SpeakError
from fewspeak.lacking import mean_stretch, total_stretch
from walks import NO_WHOLE_NUMBERS, pair

BOUND = 10 ** 9
MOST_WEIGHT = 10 ** 6
NO_LISTS = (None, True, 0, 1, 1.5, "", "abc", (), ((1, 0, 5),), {}, {1}, object(), list, range(2), iter([]))


def total_of(answers, filling):
    return sum(answer[0] * told for answer, told in zip(answers, filling) if told is not None)


def mean_of(answers, filling):
    return Fraction(total_of(answers, filling),
                    sum(answer[0] for answer, told in zip(answers, filling) if told is not None))


def whole_choices(answer):
    """All that a filling may give to one answer, with a word or without one."""
    told = list(range(answer[1], answer[2] + 1))
    word = answer[3] if len(answer) == 4 else "yes"
    return {"yes": told, "no": [None], "open": told + [None]}[word]


def end_choices(answer, end):
    """As above, but at the one end alone: an answer that counts weighs above nought."""
    return {"yes": [answer[end]], "no": [None], "open": [answer[end], None]}[answer[3]]


def fillings(choices):
    return [filling for filling in itertools.product(*choices) if any(told is not None for told in filling)]


def drawn_answers(chance, many, high, words):
    answers = []
    for place in range(many):
        low = chance.randint(-high, high)
        answer = (chance.choice((1, 2, 3, chance.randint(1, MOST_WEIGHT))), low, chance.randint(low, high))
        answers.append(answer + (chance.choice(words),) if words else answer)
    return answers


class StretchesTest(unittest.TestCase):
    def assertRefused(self, ask, *things):
        with self.assertRaises(SpeakError) as caught:
            ask(*things)
        self.assertIs(type(caught.exception), NoAnswers)

    def assertFilling(self, answers, filling):
        self.assertIs(type(filling), list)
        self.assertEqual(len(filling), len(answers))
        for answer, told in zip(answers, filling):
            word = answer[3] if len(answer) == 4 else "yes"
            if told is None:
                self.assertIn(word, ("no", "open"))
            else:
                self.assertIs(type(told), int)
                self.assertIn(word, ("yes", "open"))
                self.assertTrue(answer[1] <= told <= answer[2])


class TotalTest(StretchesTest):
    """Promises 5, 9 and 95."""

    def test_none(self):
        self.assertEqual(total_stretch([]), (0, 0, [], []))

    def test_by_hand(self):
        self.assertEqual(total_stretch([(1, 0, 5)]), (0, 5, [0], [5]))
        self.assertEqual(total_stretch([(2, -3, 4), (5, 7, 7), (1, -9, -2)]), (20, 41, [-3, 7, -9], [4, 7, -2]))
        self.assertEqual(total_stretch([(3, 4, 4), (1, 0, 0)]), (12, 12, [4, 0], [4, 0]))

    def test_the_bounds(self):
        for low, high in ((-BOUND, BOUND), (-BOUND, -BOUND), (BOUND, BOUND), (0, 0), (-BOUND, 0), (0, BOUND)):
            for weight in (1, MOST_WEIGHT):
                for many in (1, 24):
                    wished = (many * weight * low, many * weight * high, [low] * many, [high] * many)
                    self.assertEqual(total_stretch([(weight, low, high)] * many), wished)

    def test_against_all_fillings(self):
        chance = random.Random(95)
        for case in range(100):
            answers = drawn_answers(chance, chance.randint(0, 4), 3, ())
            least, most, lows, highs = total_stretch(answers)
            totals = [total_of(answers, filling) for filling in itertools.product(*map(whole_choices, answers))]
            self.assertEqual((least, most), (min(totals), max(totals)))
            for filling, told in ((lows, least), (highs, most)):
                self.assertFilling(answers, filling)
                self.assertEqual(total_of(answers, filling), told)

    def test_24_answers(self):
        chance = random.Random(24)
        for case in range(50):
            answers = drawn_answers(chance, 24, BOUND, ())
            least, most, lows, highs = total_stretch(answers)
            self.assertEqual(least, sum(weight * low for weight, low, high in answers))
            self.assertEqual(most, sum(weight * high for weight, low, high in answers))
            self.assertEqual((total_of(answers, lows), total_of(answers, highs)), (least, most))
            self.assertFilling(answers, lows)
            self.assertFilling(answers, highs)

    def test_what_is_told_is_the_askers_own(self):
        answers = [(2, 3, 3), (1, -4, 4)]
        before = copy.deepcopy(answers)
        told = total_stretch(answers)
        told[2][0] = 99
        self.assertEqual(told[3], [3, 4])
        told[3].append(99)
        self.assertEqual(total_stretch(answers), (2, 10, [3, -4], [3, 4]))
        self.assertEqual(answers, before)
        told = total_stretch(answers)
        answers[0] = (9, 9, 9)
        answers.clear()
        self.assertEqual(told, (2, 10, [3, -4], [3, 4]))


class MeanTest(StretchesTest):
    """Promises 2, 5, 9 and 96."""

    def assertStretch(self, answers, told, least, most):
        """The means told are these Fractions, and their fillings have them."""
        self.assertIs(type(told), tuple)
        self.assertEqual(told[:2], (pair(least), pair(most)))
        for filling, mean in ((told[2], least), (told[3], most)):
            self.assertFilling(answers, filling)
            self.assertEqual(mean_of(answers, filling), mean)

    def test_no_filling_in_which_some_count(self):
        self.assertIsNone(mean_stretch([]))
        self.assertIsNone(mean_stretch([(1, 0, 5, "no")]))
        self.assertIsNone(mean_stretch([(1, 0, 5, "no"), (MOST_WEIGHT, -BOUND, BOUND, "no")] * 12))

    def test_one_answer(self):
        for word in ("yes", "open"):
            for weight in (1, 2, MOST_WEIGHT):
                for low, high in ((0, 5), (-5, 0), (-BOUND, BOUND), (7, 7), (0, 0)):
                    self.assertEqual(mean_stretch([(weight, low, high, word)]), ((low, 1), (high, 1), [low], [high]))
                    told = mean_stretch([(3, -9, 9, "no"), (weight, low, high, word), (1, 0, 0, "no")])
                    self.assertEqual(told, ((low, 1), (high, 1), [None, low, None], [None, high, None]))

    def test_all_count(self):
        answers = [(1, 0, 5, "yes"), (2, -1, 3, "yes")]
        self.assertEqual(mean_stretch(answers), ((-2, 3), (11, 3), [0, -1], [5, 3]))
        self.assertEqual(mean_stretch([(2, 3, 3, "yes"), (4, 6, 6, "yes")]), ((5, 1), (5, 1), [3, 6], [3, 6]))

    def test_some_may_count(self):
        # The low of the one that may count pulls the mean down, its high doesn't pull it up.
        answers = [(1, 4, 6, "yes"), (1, 0, 2, "open")]
        self.assertEqual(mean_stretch(answers), ((2, 1), (6, 1), [4, 0], [6, None]))
        answers = [(1, 4, 6, "yes"), (3, 5, 9, "open")]
        self.assertEqual(mean_stretch(answers), ((4, 1), (33, 4), [4, None], [6, 9]))
        answers = [(1, 4, 6, "yes"), (3, 0, 9, "open"), (5, -9, 99, "no")]
        self.assertEqual(mean_stretch(answers), ((1, 1), (33, 4), [4, 0, None], [6, 9, None]))

    def test_only_as_many_as_still_pull(self):
        answers = [(1, 10, 10, "yes"), (1, 6, 6, "open"), (1, 0, 0, "open"), (1, 4, 4, "open")]
        self.assertStretch(answers, mean_stretch(answers), Fraction(14, 3), Fraction(10))
        self.assertEqual(mean_stretch(answers)[2], [10, None, 0, 4])
        answers = [(1, 10, 10, "yes"), (1, 14, 14, "open"), (1, 20, 20, "open"), (1, 16, 16, "open")]
        self.assertStretch(answers, mean_stretch(answers), Fraction(10), Fraction(46, 3))
        self.assertEqual(mean_stretch(answers)[3], [10, None, 20, 16])

    def test_one_that_may_count_alone(self):
        answers = [(9, 5, 7, "open"), (1, 3, 4, "open"), (4, 8, 9, "open")]
        self.assertEqual(mean_stretch(answers), ((3, 1), (9, 1), [None, 3, None], [None, None, 9]))
        answers = [(2, 1, 6, "open"), (5, 1, 6, "open")]
        self.assertStretch(answers, mean_stretch(answers), Fraction(1), Fraction(6))

    def test_lowest_terms(self):
        self.assertEqual(mean_stretch([(2, 0, 6, "yes"), (4, 0, 3, "yes")])[:2], ((0, 1), (4, 1)))
        self.assertEqual(mean_stretch([(4, -3, 3, "yes"), (2, -1, 0, "yes")])[:2], ((-7, 3), (2, 1)))

    def test_the_bounds(self):
        for low, high in ((-BOUND, BOUND), (-BOUND, -BOUND), (BOUND, BOUND), (0, 0)):
            for word in ("yes", "open"):
                told = mean_stretch([(MOST_WEIGHT, low, high, word)] * 24)
                self.assertStretch([(MOST_WEIGHT, low, high, word)] * 24, told, Fraction(low), Fraction(high))

    def test_against_all_fillings(self):
        chance = random.Random(96)
        for case in range(200):
            answers = drawn_answers(chance, chance.randint(0, 4), 2, ("yes", "no", "open", "open"))
            means = [mean_of(answers, filling) for filling in fillings(map(whole_choices, answers))]
            told = mean_stretch(answers)
            if means:
                self.assertStretch(answers, told, min(means), max(means))
            else:
                self.assertIsNone(told)

    def test_against_all_choices_of_those_that_may_count(self):
        chance = random.Random(97)
        for case in range(200):
            high = chance.choice((1, 3, 50, BOUND))
            words = chance.choice((("open",), ("yes", "open", "open"), ("yes", "no", "open")))
            answers = drawn_answers(chance, chance.randint(1, 9), high, words)
            lows = fillings(end_choices(answer, 1) for answer in answers)
            highs = fillings(end_choices(answer, 2) for answer in answers)
            told = mean_stretch(answers)
            if lows:
                self.assertStretch(answers, told, min(mean_of(answers, filling) for filling in lows),
                                   max(mean_of(answers, filling) for filling in highs))
            else:
                self.assertIsNone(told)

    def test_24_answers(self):
        # Whoever may count stands within the mean told, or counts: else it would pull the mean farther.
        chance = random.Random(98)
        for case in range(60):
            answers = drawn_answers(chance, 24, chance.choice((3, BOUND)), chance.choice((("open",), ("yes", "no", "open"))))
            least, most, lows, highs = mean_stretch(answers)
            self.assertStretch(answers, (least, most, lows, highs), Fraction(*least), Fraction(*most))
            for answer, low, high in zip(answers, lows, highs):
                if answer[3] == "open":
                    self.assertTrue(low is None or answer[1] <= Fraction(*least))
                    self.assertTrue(low is not None or answer[1] >= Fraction(*least))
                    self.assertTrue(high is None or answer[2] >= Fraction(*most))
                    self.assertTrue(high is not None or answer[2] <= Fraction(*most))

    def test_what_is_told_is_the_askers_own(self):
        answers = [(2, 3, 3, "yes"), (1, -4, 4, "open"), (1, 0, 0, "no")]
        before, wished = copy.deepcopy(answers), copy.deepcopy(mean_stretch(answers))
        told = mean_stretch(answers)
        told[2][0] = 99
        self.assertEqual(told[3], wished[3])
        told[3].append(99)
        self.assertEqual(mean_stretch(answers), wished)
        self.assertEqual(answers, before)
        told = mean_stretch(answers)
        answers[0] = (9, 9, 9, "yes")
        answers.clear()
        self.assertEqual(told, wished)


class NoAnswersTest(StretchesTest):
    """Promises 2, 6, 95, 96 and 97."""

    def assertNoAnswers(self, thing):
        """Neither with words nor without them."""
        before = repr(thing)
        self.assertRefused(total_stretch, thing)
        self.assertRefused(mean_stretch, thing)
        self.assertEqual(repr(thing), before)

    def test_what_is_no_list(self):
        for thing in NO_LISTS:
            self.assertNoAnswers(thing)
        self.assertRefused(mean_stretch, ((1, 0, 5, "yes"),))
        self.assertRefused(total_stretch, (1, 0, 5))

    def test_25_answers(self):
        self.assertEqual(total_stretch([(1, 0, 1)] * 24)[:2], (0, 24))
        self.assertEqual(mean_stretch([(1, 0, 1, "yes")] * 24)[:2], ((0, 1), (1, 1)))
        self.assertRefused(total_stretch, [(1, 0, 1)] * 25)
        self.assertRefused(mean_stretch, [(1, 0, 1, "yes")] * 25)
        self.assertRefused(mean_stretch, [(1, 0, 1, "no")] * 25)

    def test_tuples_of_another_length(self):
        self.assertRefused(total_stretch, [(1, 0, 5, "yes")])
        self.assertRefused(mean_stretch, [(1, 0, 5)])
        for thing in ((), (1,), (1, 0), (1, 0, 5, "yes", "yes"), (1, 0, 5, 5), ("yes", 1, 0, 5), (1, 0, "yes")):
            self.assertNoAnswers([thing])
            self.assertRefused(total_stretch, [(1, 0, 5), thing])
            self.assertRefused(mean_stretch, [(1, 0, 5, "yes"), thing])

    def test_what_is_no_tuple(self):
        for thing in NO_WHOLE_NUMBERS + (0, 1, "abc", "abcd", [1, 0, 5], [1, 0, 5, "yes"]):
            self.assertNoAnswers([thing])
            self.assertRefused(total_stretch, [(1, 0, 5), thing, (1, 0, 5)])
            self.assertRefused(mean_stretch, [(1, 0, 5, "yes"), thing, (1, 0, 5, "yes")])

    def assertBothRefused(self, weight, low, high):
        self.assertRefused(total_stretch, [(weight, low, high)])
        self.assertRefused(total_stretch, [(1, 0, 5), (weight, low, high)])
        for word in ("yes", "no", "open"):
            self.assertRefused(mean_stretch, [(weight, low, high, word)])
            self.assertRefused(mean_stretch, [(1, 0, 5, "no"), (weight, low, high, word)])

    def test_what_is_no_weight(self):
        for thing in NO_WHOLE_NUMBERS + (0, -1, MOST_WEIGHT + 1, 10 ** 20):
            self.assertBothRefused(thing, 0, 5)

    def test_what_is_no_low_and_no_high(self):
        for thing in NO_WHOLE_NUMBERS + (-BOUND - 1, BOUND + 1, 10 ** 20, -10 ** 20):
            self.assertBothRefused(1, thing, BOUND)
            self.assertBothRefused(1, -BOUND, thing)
            self.assertBothRefused(1, thing, thing)

    def test_a_low_above_the_high(self):
        for low, high in ((1, 0), (0, -1), (6, 5), (-5, -6), (BOUND, BOUND - 1), (BOUND, -BOUND)):
            self.assertBothRefused(1, low, high)

    def test_words_that_are_none(self):
        others = (0, 1, "Yes", "NO", "yes ", " no", "opened", "ope", "yesno", "count", ("yes",), ["no"], mock.ANY)
        for word in NO_WHOLE_NUMBERS + others:
            self.assertRefused(mean_stretch, [(1, 0, 5, word)])
            self.assertRefused(mean_stretch, [(1, 0, 5, "yes"), (1, 0, 5, word)])
            self.assertRefused(mean_stretch, [(1, 0, 5, "no"), (1, 0, 5, word)])


if __name__ == "__main__":
    unittest.main()
