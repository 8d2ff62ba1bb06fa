import unittest

from fewspeak.words import is_list_of, is_name, is_whole, number_of

OTHER_KINDS = (None, True, False, 1.0, 1.5, float("nan"), float("inf"), 1j, b"a", b"1", (), (1,), ("a",), [], [1],
               ["a"], {}, {"a": 1}, {1}, object(), int, str, len, range(3))


class IsWholeTest(unittest.TestCase):
    """Promises 2 and 11."""

    def test_both_bounds_count_and_nothing_beyond_them(self):
        for low, high in ((0, 5), (-5, 5), (-9, -3), (-10 ** 9, 10 ** 9), (1, 10 ** 6), (10 ** 40, 10 ** 40 + 2)):
            for thing in (low, low + 1, high - 1, high):
                with self.subTest(thing=thing, low=low, high=high):
                    self.assertIs(is_whole(thing, low, high), True)
            for thing in (low - 1, high + 1, low - 10 ** 50, high + 10 ** 50):
                with self.subTest(thing=thing, low=low, high=high):
                    self.assertIs(is_whole(thing, low, high), False)

    def test_one_number_alone_between_the_bounds(self):
        self.assertEqual([thing for thing in range(-3, 9) if is_whole(thing, 4, 4)], [4])

    def test_no_number_where_low_is_above_high(self):
        self.assertEqual([thing for thing in range(-9, 9) if is_whole(thing, 3, 2)], [])

    def test_things_of_other_kinds_are_none(self):
        for thing in OTHER_KINDS + ("", "1", "a"):
            with self.subTest(repr(thing)):
                self.assertIs(is_whole(thing, -10 ** 9, 10 ** 9), False)


class IsNameTest(unittest.TestCase):
    """Promises 2 and 11."""

    def test_one_to_eight_small_letters(self):
        for thing in ("a", "z", "ab", "zebra", "abcdefg", "abcdefgh", "stuvwxyz", "ijklmnop", "qr", "aaaaaaaa"):
            with self.subTest(thing):
                self.assertIs(is_name(thing), True)

    def test_no_sign_and_nine_signs(self):
        for thing in ("", "abcdefghi", "a" * 1000):
            with self.subTest(thing[:10]):
                self.assertIs(is_name(thing), False)

    def test_every_other_sign_at_every_place(self):
        for number in range(ord(" "), ord("~") + 1):
            sign = chr(number)
            for thing in (sign, "a" + sign, sign + "a", "abc" + sign + "efg", "abcdefg" + sign):
                with self.subTest(thing):
                    self.assertIs(is_name(thing), "a" <= sign <= "z")

    def test_things_of_other_kinds_are_none(self):
        for thing in OTHER_KINDS + (0, 1, -1):
            with self.subTest(repr(thing)):
                self.assertIs(is_name(thing), False)


class IsListOfTest(unittest.TestCase):
    def test_lists_up_to_the_most(self):
        for most in (0, 1, 6, 24):
            for many in range(most + 1):
                self.assertIs(is_list_of(["a"] * many, most, is_name), True)
            self.assertIs(is_list_of(["a"] * (most + 1), most, is_name), False)

    def test_each_of_them_is_looked_at(self):
        for place in range(4):
            self.assertIs(is_list_of(["a"] * place + ["A"] + ["a"] * (3 - place), 4, is_name), False)

    def test_what_is_no_list(self):
        for thing in (None, True, 0, 1, 1.5, "", "a", ("a",), (), {}, {"a": 1}, {"a"}, object(), list, range(0), iter([])):
            with self.subTest(repr(thing)):
                self.assertIs(is_list_of(thing, 4, is_name), False)


class NumberOfTest(unittest.TestCase):
    """Promise 11."""

    BOUND = 10 ** 20

    def test_numbers_written_plainly(self):
        for number in (0, 1, -1, 7, -7, 10, -10, 99, 100, -100, 123456789, 10 ** 9, -10 ** 9,
                       10 ** 11, 10 ** 12 - 1, -(10 ** 12 - 1), 908070605040):
            told = number_of(str(number), -self.BOUND, self.BOUND)
            with self.subTest(number):
                self.assertEqual(told, number)
                self.assertIs(type(told), int)

    def test_each_figure_alone_and_behind_another(self):
        for number in range(10):
            self.assertEqual(number_of(f"{number}", 0, 99), number)
            self.assertEqual(number_of(f"1{number}", 0, 99), 10 + number)
            self.assertEqual(number_of(f"-1{number}", -99, 0), -10 - number)

    def test_what_is_not_written_plainly_is_none(self):
        for text in ("", "-", "--", "--1", "-0", "+0", "+1", "-+1", "+-1", "00", "07", "-07", "-00", "000", "0x1",
                     "1-", "1-1", "1+", "1_0", "1 0", " 1", "1 ", " ", "- 1", "-1 ", "1.0", "1.", ".1", "1e3", "1,000",
                     "a", "1a", "a1", "one", "-a", "None", "0 ", " 0", "0-"):
            with self.subTest(text):
                self.assertIsNone(number_of(text, -self.BOUND, self.BOUND))

    def test_every_other_sign(self):
        for number in range(ord(" "), ord("~") + 1):
            sign = chr(number)
            if not sign.isdigit():
                for text in (sign, "1" + sign, "1" + sign + "1"):
                    with self.subTest(text):
                        self.assertIsNone(number_of(text, -self.BOUND, self.BOUND))

    def test_twelve_figures_and_thirteen(self):
        self.assertEqual(number_of("123456789012", -self.BOUND, self.BOUND), 123456789012)
        self.assertEqual(number_of("-123456789012", -self.BOUND, self.BOUND), -123456789012)
        self.assertIsNone(number_of("1234567890123", -self.BOUND, self.BOUND))
        self.assertIsNone(number_of("-1234567890123", -self.BOUND, self.BOUND))
        self.assertIsNone(number_of("1" * 5000, -self.BOUND, self.BOUND))
        self.assertIsNone(number_of("0" * 13, -self.BOUND, self.BOUND))

    def test_both_bounds_count_and_nothing_beyond_them(self):
        for low, high in ((0, 5), (-5, 5), (-9, -3), (4, 4), (-10 ** 9, 10 ** 9), (1, 10 ** 6)):
            for number in (low, high):
                with self.subTest(number, low=low, high=high):
                    self.assertEqual(number_of(str(number), low, high), number)
            for number in (low - 1, high + 1, low - 10 ** 10, high + 10 ** 10):
                with self.subTest(number, low=low, high=high):
                    self.assertIsNone(number_of(str(number), low, high))


if __name__ == "__main__":
    unittest.main()
