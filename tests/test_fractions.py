import operator
import random
import unittest
from fractions import Fraction
from math import gcd

from fewspeak.fractions import below, minus, over, plus, share, times
from walks import pair

SMALL = [(0, 1)] + [(top, bottom) for top in range(-7, 8) for bottom in range(1, 8) if top and gcd(top, bottom) == 1]
OPERATIONS = ((plus, operator.add), (minus, operator.sub), (times, operator.mul), (over, operator.truediv))
LONG = 10 ** 1999 + 7


def long_fractions():
    throws = random.Random(21)
    for figures in (1, 30, 600, 2000):
        numbers = [throws.randrange(10 ** (figures - 1), 10 ** figures) for number in range(4)]
        yield pair(Fraction(numbers[0], numbers[1])), pair(Fraction(-numbers[2], numbers[3]))


class FractionsTest(unittest.TestCase):
    """Promises 2 and 21."""

    def assertIsFraction(self, told):
        self.assertIs(type(told), tuple)
        self.assertEqual([type(number) for number in told], [int, int])
        self.assertGreaterEqual(told[1], 1)
        # Of nought and a bottom the greatest divisor is the bottom, so that nought must be (0, 1).
        self.assertEqual(gcd(told[0], told[1]), 1)

    def test_share_of_ordinary_numbers(self):
        for top, bottom, told in ((1, 2, (1, 2)), (2, 4, (1, 2)), (6, 3, (2, 1)), (3, 6, (1, 2)), (7, 7, (1, 1)),
                                  (12, 18, (2, 3)), (18, 12, (3, 2)), (5, 1, (5, 1)), (17, 19, (17, 19))):
            with self.subTest(top=top, bottom=bottom):
                self.assertEqual(share(top, bottom), told)

    def test_share_of_numbers_below_nought(self):
        for top, bottom, told in ((-1, 2, (-1, 2)), (1, -2, (-1, 2)), (-1, -2, (1, 2)), (4, -6, (-2, 3)),
                                  (-4, 6, (-2, 3)), (-4, -6, (2, 3)), (6, -3, (-2, 1)), (-7, -7, (1, 1)), (5, -1, (-5, 1))):
            with self.subTest(top=top, bottom=bottom):
                self.assertEqual(share(top, bottom), told)

    def test_share_of_nought(self):
        for bottom in (1, -1, 2, -2, 9, -9, 10 ** 30, -10 ** 30):
            with self.subTest(bottom):
                self.assertEqual(share(0, bottom), (0, 1))

    def test_share_of_all_small_numbers(self):
        for top in range(-30, 31):
            for bottom in [number for number in range(-30, 31) if number]:
                told = share(top, bottom)
                self.assertEqual(told, pair(Fraction(top, bottom)), (top, bottom))
                self.assertIsFraction(told)

    def test_share_of_numbers_of_many_figures(self):
        for top, bottom, told in ((LONG, LONG, (1, 1)), (-LONG, LONG, (-1, 1)), (LONG * 6, -LONG * 4, (-3, 2)),
                                  (LONG, 1, (LONG, 1)), (1, -LONG, (-1, LONG)), (LONG, LONG + 1, (LONG, LONG + 1)),
                                  (0, LONG, (0, 1))):
            self.assertTrue(share(top, bottom) == told)

    def test_sums_differences_products_and_quotients(self):
        for tell, reckon in OPERATIONS:
            for one in SMALL:
                for other in SMALL:
                    if tell is over and other == (0, 1):
                        continue
                    told = tell(one, other)
                    self.assertEqual(told, pair(reckon(Fraction(*one), Fraction(*other))), (tell.__name__, one, other))
                    self.assertIsFraction(told)

    def test_some_by_hand(self):
        self.assertEqual(plus((1, 6), (1, 3)), (1, 2))
        self.assertEqual(plus((1, 2), (-1, 2)), (0, 1))
        self.assertEqual(minus((1, 3), (1, 2)), (-1, 6))
        self.assertEqual(minus((5, 7), (5, 7)), (0, 1))
        self.assertEqual(times((2, 3), (3, 4)), (1, 2))
        self.assertEqual(times((-2, 3), (0, 1)), (0, 1))
        self.assertEqual(over((1, 2), (-3, 4)), (-2, 3))
        self.assertEqual(over((0, 1), (-3, 4)), (0, 1))

    def test_numbers_of_many_figures(self):
        for one, other in long_fractions():
            for tell, reckon in OPERATIONS:
                for first, second in ((one, other), (other, one), (one, one), (other, other)):
                    # Not assertEqual, which would write these numbers out, and that is refused for so many figures.
                    self.assertTrue(tell(first, second) == pair(reckon(Fraction(*first), Fraction(*second))),
                                    tell.__name__)


class BelowTest(unittest.TestCase):
    """Promise 21."""

    def test_all_small_fractions_either_way_round(self):
        for one in SMALL:
            for other in SMALL:
                self.assertIs(below(one, other), Fraction(*one) < Fraction(*other), (one, other))

    def test_equal_ones_are_not_below_one_another(self):
        for one in SMALL + [(LONG, LONG + 1)]:
            self.assertIs(below(one, one), False)

    def test_numbers_of_many_figures(self):
        self.assertIs(below((LONG, LONG + 1), (LONG + 1, LONG + 2)), True)
        self.assertIs(below((LONG + 1, LONG + 2), (LONG, LONG + 1)), False)
        for one, other in long_fractions():
            self.assertIs(below(other, one), True)
            self.assertIs(below(one, other), False)


if __name__ == "__main__":
    unittest.main()
