import copy
import itertools
import unittest

from fewspeak.errors import NoLevel, NoListing, NoUnits, SpeakError
from fewspeak.listings import crowd_of, groups_of, listing_lines, listing_of, need_units, values_of

NAMES = tuple("abcdefghijklmnopqrstuvwxyz")

LINES = ["ann 5 10 north.hill", "bea -7 1 south.dale", "cleo 0 1000000 north.dale",
         "dan 1000000000 3 north.hill", "eve -1000000000 4 south.dale"]
UNITS = [("ann", 5, 10, ("north", "hill")), ("bea", -7, 1, ("south", "dale")),
         ("cleo", 0, 1000000, ("north", "dale")), ("dan", 1000000000, 3, ("north", "hill")),
         ("eve", -1000000000, 4, ("south", "dale"))]

NO_LISTS = (None, True, False, 0, 1, 1.5, "", "a", "a 1 1 -", b"a", (), ("a 1 1 -",), (("a", 1, 1, ()),), {},
            {"a 1 1 -": 1}, {"a"}, object(), list, len)
NO_NAMES = ("", "A", "Ann", "a1", "1", "a b", " a", "a.", "-", "abcdefghi", None, True, 0, b"a", ("a",), ["a"], {}, {1})
NO_WHOLES = (None, True, False, 1.0, 2.5, float("nan"), "1", "", b"1", (1,), [1], {}, {1}, 1j)
NO_PATHS = (None, True, 0, "", "-", "a", "ab", ["a"], [], {}, {"a"}, ("A",), ("",), ("a", ""), ("a", 1), ("a", None),
            (("a",),), (["a"],), ("abcdefghi",), ("a.b",), ("a", "b", "c", "d"))


def unit(name="a", value=1, size=1, path=()):
    return (name, value, size, path)


def many_units(many):
    return [unit(name) for name in NAMES[:many]]


def many_lines(many):
    return [f"{name} 1 1 -" for name in NAMES[:many]]


class NeedUnitsTest(unittest.TestCase):
    """Promises 3 and 12."""

    def assert_right(self, units):
        self.assertIsNone(need_units(units))

    def assert_refused(self, thing):
        with self.subTest(repr(thing)):
            with self.assertRaises(NoUnits):
                need_units(thing)

    def test_units_are_let_by(self):
        self.assert_right(UNITS)
        self.assert_right([unit()])

    def test_what_is_no_list(self):
        for thing in NO_LISTS:
            self.assert_refused(thing)

    def test_how_many_there_may_be(self):
        self.assert_refused([])
        self.assert_right(many_units(1))
        self.assert_right(many_units(24))
        self.assert_refused(many_units(25))

    def test_what_is_no_tuple_of_four(self):
        for thing in NO_LISTS + ([*unit()], unit()[:3], unit()[1:], unit() + ((),), "abcd", {0: "a"}):
            self.assert_refused([thing])
            self.assert_refused([unit(), thing])

    def test_wrong_names(self):
        for name in NO_NAMES:
            self.assert_refused([unit(name=name)])
            self.assert_refused([unit("z"), unit(name=name)])

    def test_values_at_and_beyond_their_bounds(self):
        for value in (-10 ** 9, -1, 0, 1, 10 ** 9):
            self.assert_right([unit(value=value)])
        for value in NO_WHOLES + (-10 ** 9 - 1, 10 ** 9 + 1, 10 ** 30):
            self.assert_refused([unit(value=value)])
            self.assert_refused([unit("z"), unit(value=value)])

    def test_sizes_at_and_beyond_their_bounds(self):
        for size in (1, 2, 10 ** 6):
            self.assert_right([unit(size=size)])
        for size in NO_WHOLES + (-1, 0, 10 ** 6 + 1, 10 ** 30):
            self.assert_refused([unit(size=size)])
            self.assert_refused([unit("z"), unit(size=size)])

    def test_paths(self):
        for path in ((), ("a",), ("a", "a"), ("abcdefgh", "b", "c")):
            self.assert_right([unit(path=path)])
            self.assert_right([unit("y", path=path), unit("z", path=path)])
        for path in NO_PATHS:
            self.assert_refused([unit(path=path)])
            self.assert_refused([unit("z"), unit(path=path)])
            self.assert_refused([unit("z", path=("a",)), unit(path=path)])

    def test_a_name_twice(self):
        self.assert_refused([unit(), unit()])
        self.assert_refused([unit(value=1), unit(value=2, size=3)])
        self.assert_refused([unit("a"), unit("b"), unit("c"), unit("a")])
        self.assert_refused(many_units(23) + [unit("w")])

    def test_a_name_may_stand_in_paths_too(self):
        self.assert_right([unit("a", path=("a",)), unit("b", path=("a",))])

    def test_paths_of_unlike_length(self):
        paths = ((), ("a",), ("a", "b"), ("a", "b", "c"))
        for one, other in itertools.permutations(paths, 2):
            self.assert_refused([unit("x", path=one), unit("y", path=other)])
            self.assert_refused([unit("w", path=one), unit("x", path=one), unit("y", path=other)])


class ListingOfTest(unittest.TestCase):
    """Promise 13."""

    def assert_refused(self, lines, line, word):
        with self.subTest(repr(lines)):
            with self.assertRaises(NoListing) as caught:
                listing_of(lines)
            self.assertEqual((caught.exception.line, caught.exception.word), (line, word))

    def assert_no_units(self, thing):
        with self.subTest(repr(thing)):
            with self.assertRaises(NoUnits):
                listing_of(thing)

    def assert_word_refused(self, line, word):
        """The line by itself, and behind one that is right and whose path has no names."""
        self.assert_refused([line], 0, word)
        self.assert_refused(["zz 1 1 -", line], 1, word)

    def test_lines_are_read(self):
        self.assertEqual(listing_of(LINES), UNITS)
        self.assertEqual(listing_of(["a 0 1 -"]), [("a", 0, 1, ())])

    def test_what_is_read_are_units(self):
        units = listing_of(LINES)
        self.assertIsNone(need_units(units))
        self.assertEqual([type(part) for part in units[0]], [str, int, int, tuple])

    def test_what_is_no_list(self):
        for thing in NO_LISTS:
            self.assert_no_units(thing)

    def test_how_many_there_may_be(self):
        self.assert_no_units([])
        self.assertEqual(listing_of(many_lines(1)), many_units(1))
        self.assertEqual(listing_of(many_lines(24)), many_units(24))
        self.assert_no_units(many_lines(25))

    def test_too_many_goes_ahead_of_wrong_lines(self):
        self.assert_no_units(["?"] * 25)
        self.assert_no_units([None] * 25)
        self.assert_no_units(many_lines(24) + ["a"])

    def test_wrong_words_0(self):
        for word in ("", "A", "Ann", "aB", "a1", "1", "-", "a.b", "a-", "abcdefghi"):
            self.assert_word_refused(f"{word} 1 1 -", 0)

    def test_wrong_words_1(self):
        for word in ("", "-", "x", "+1", "-0", "07", "-07", "00", "1.0", "1e3", "1000000001", "-1000000001",
                     "1000000000000", "--1"):
            self.assert_word_refused(f"a {word} 1 -", 1)

    def test_wrong_words_2(self):
        for word in ("", "-", "x", "0", "-0", "-1", "+1", "07", "1.0", "1000001", "1000000000000"):
            self.assert_word_refused(f"a 1 {word} -", 2)

    def test_wrong_words_3(self):
        for word in ("", ".", "..", "--", "-.-", "a.-", "-.a", "A", "a1", "1", "a.", ".a", "a..b", "a.b.", "a.B", "a,b",
                     "a.b.c.d", "abcdefghi", "a.abcdefghi", "()", "a-b"):
            self.assert_word_refused(f"a 1 1 {word}", 3)

    def test_bounds_of_values_and_sizes(self):
        self.assertEqual(listing_of(["a -1000000000 1 -", "b 1000000000 1000000 -"]),
                         [("a", -10 ** 9, 1, ()), ("b", 10 ** 9, 10 ** 6, ())])

    def test_the_name_of_a_line_ahead(self):
        self.assert_refused(["a 1 1 -", "a 1 1 -"], 1, 0)
        self.assert_refused(["a 1 1 -", "b 2 2 -", "c 3 3 -", "a 4 4 -"], 3, 0)
        self.assert_refused(["a 1 1 -", "b 2 2 -", "b 3 3 -", "a 4 4 -"], 2, 0)
        self.assert_refused(["a 1 1 -", "a x y z"], 1, 0)

    def test_a_path_of_another_number_of_names_than_line_0s(self):
        paths = ("-", "a", "a.b", "a.b.c")
        for one, other in itertools.permutations(paths, 2):
            self.assert_refused([f"x 1 1 {one}", f"y 1 1 {other}"], 1, 3)
            self.assert_refused([f"w 1 1 {one}", f"x 1 1 {one}", f"y 1 1 {other}"], 2, 3)
            self.assert_refused([f"w 1 1 {one}", f"x 1 1 {other}", f"y 1 1 {one}"], 1, 3)

    def test_too_few_words(self):
        self.assert_word_refused("a", 1)
        self.assert_word_refused("a 1", 2)
        self.assert_word_refused("a 1 1", 3)

    def test_too_few_words_and_a_wrong_one(self):
        self.assert_word_refused("", 0)
        self.assert_word_refused("A", 0)
        self.assert_word_refused("A 1", 0)
        self.assert_word_refused("a x", 1)
        self.assert_word_refused("a x 1", 1)
        self.assert_word_refused("a 1 0", 2)

    def test_too_many_words(self):
        for behind in ("-", "x", "1", "?", "- -", "a b c d e"):
            self.assert_word_refused(f"a 1 1 - {behind}", 4)

    def test_too_many_words_and_a_wrong_one(self):
        self.assert_word_refused("A 1 1 - x", 0)
        self.assert_word_refused("a ? 1 - x", 1)
        self.assert_word_refused("a 1 ? - x", 2)
        self.assert_word_refused("a 1 1 ? x", 3)

    def test_blanks(self):
        self.assert_word_refused(" ", 0)
        self.assert_word_refused(" a 1 1 -", 0)
        self.assert_word_refused("a  1 1 -", 1)
        self.assert_word_refused("a 1  1 -", 2)
        self.assert_word_refused("a 1 1  -", 3)
        self.assert_word_refused("a 1 1 - ", 4)
        self.assert_word_refused("a 1 1 -  x", 4)
        self.assert_word_refused("a ", 1)
        self.assert_word_refused("a 1 ", 2)
        self.assert_word_refused("a 1 1 ", 3)

    def test_things_that_are_no_texts(self):
        for thing in (None, True, 0, 1.5, b"a 1 1 -", ("a", 1, 1, ()), ["a", "1", "1", "-"], [], {}, {"a"}, object()):
            self.assert_refused([thing], 0, 0)
            self.assert_refused(["z 1 1 -", thing], 1, 0)
            self.assert_refused(["z 1 1 -", thing, "?"], 1, 0)

    def test_the_first_wrong_line_goes(self):
        self.assert_refused(["a 1 1 -", "b 1 1 x", "?"], 1, 3)
        self.assert_refused(["a 1 1", "b x 1 -", None], 0, 3)
        self.assert_refused(["a 1 1 - -", "a 1 1 -"], 0, 4)
        self.assert_refused(many_lines(23) + ["x 1 0 -"], 23, 2)

    def test_the_first_wrong_word_goes(self):
        """Every row of one to six words, each right or wrong at its place."""
        right = ("a", "1", "1", "-", "x", "x")
        wrong = ("A", "?", "0", "?", "", "?")
        for many in range(1, 7):
            for marks in itertools.product((True, False), repeat=many):
                words = [right[k] if mark else wrong[k] for k, mark in enumerate(marks)]
                if all(marks[:4]) and many == 4:
                    self.assertEqual(listing_of([" ".join(words)]), [unit()])
                else:
                    first = min([k for k, mark in enumerate(marks[:4]) if not mark] + [min(many, 4)])
                    self.assert_word_refused(" ".join(words), first)


class TellUnitsTest(unittest.TestCase):
    """Promise 14."""

    def test_lines_to_units_and_back(self):
        self.assertEqual(listing_lines(UNITS), LINES)
        self.assertEqual(listing_lines(listing_of(LINES)), LINES)

    def test_units_to_lines_and_back(self):
        for path in ((), ("a",), ("a", "bc"), ("abcdefgh", "b", "abcdefgh")):
            for value in (-10 ** 9, -10, -1, 0, 1, 10, 10 ** 9):
                for size in (1, 10, 10 ** 6):
                    units = [unit("abcdefgh", value, size, path), unit("z", -value, size, path)]
                    with self.subTest(units):
                        self.assertEqual(listing_of(listing_lines(units)), units)

    def test_paths_of_none_to_three_names_are_told_with_points(self):
        self.assertEqual(listing_lines([unit()]), ["a 1 1 -"])
        self.assertEqual(listing_lines([unit(path=("x",))]), ["a 1 1 x"])
        self.assertEqual(listing_lines([unit(path=("x", "yy"))]), ["a 1 1 x.yy"])
        self.assertEqual(listing_lines([unit(path=("x", "yy", "x"))]), ["a 1 1 x.yy.x"])

    def test_24_units_there_and_back(self):
        self.assertEqual(listing_lines(many_units(24)), many_lines(24))
        self.assertEqual(listing_of(listing_lines(many_units(24))), many_units(24))

    def test_whatever_is_read_is_the_listing_of_what_it_is_read_as(self):
        words = (("a", "abcdefgh", "A", ""), ("0", "-0", "7", "-7", "07", "+7", ""), ("1", "01", "0", "1000000", ""),
                 ("-", "x", "x.y", "x.y.z", "x.", "", "--", "x.y.z.w"))
        read = 0
        for row in itertools.product(*words):
            lines = [" ".join(row)]
            try:
                units = listing_of(lines)
            except NoListing:
                continue
            read += 1
            self.assertEqual(listing_lines(units), lines)
        self.assertEqual(read, 2 * 3 * 2 * 4)

    def test_values_in_their_order(self):
        self.assertEqual(values_of(UNITS), [5, -7, 0, 10 ** 9, -10 ** 9])
        self.assertEqual(values_of([unit("z", 3), unit("a", 3), unit("m", -3)]), [3, 3, -3])

    def test_the_crowd(self):
        self.assertEqual(crowd_of(UNITS), [
            (0, 10, ("north", "hill")), (1, 1, ("south", "dale")), (2, 1000000, ("north", "dale")),
            (3, 3, ("north", "hill")), (4, 4, ("south", "dale"))])
        self.assertEqual(crowd_of([unit(size=9)]), [(0, 9, ())])
        self.assertEqual([place for place, size, path in crowd_of(many_units(24))], list(range(24)))


class GroupsOfTest(unittest.TestCase):
    """Promise 15."""

    def test_a_crowd_without_members_has_no_groups(self):
        self.assertEqual(groups_of([]), [])

    def test_groups_come_as_their_names_come_first(self):
        crowd = [(0, 5, ("z",)), (1, 6, ("a",)), (2, 7, ("m",)), (3, 8, ("a",)), (4, 9, ("z",))]
        self.assertEqual(groups_of(crowd), [("z", [(0, 5, ()), (4, 9, ())]), ("a", [(1, 6, ()), (3, 8, ())]),
                                            ("m", [(2, 7, ())])])

    def test_members_have_their_paths_without_the_first_name(self):
        crowd = [(0, 1, ("a", "x", "p")), (1, 1, ("b", "a", "q")), (2, 1, ("a", "a", "a")), (3, 1, ("a", "x", "p"))]
        self.assertEqual(groups_of(crowd), [
            ("a", [(0, 1, ("x", "p")), (2, 1, ("a", "a")), (3, 1, ("x", "p"))]), ("b", [(1, 1, ("a", "q"))])])

    def test_groups_within_groups(self):
        north = groups_of(crowd_of(UNITS))[0][1]
        self.assertEqual(groups_of(north), [("hill", [(0, 10, ()), (3, 3, ())]), ("dale", [(2, 1000000, ())])])

    def test_places_and_sizes_stay_as_they_are(self):
        crowd = [(3, 24000000, ("a",)), (7, 1, ("b",)), (23, 12, ("a",))]
        self.assertEqual(groups_of(crowd), [("a", [(3, 24000000, ()), (23, 12, ())]), ("b", [(7, 1, ())])])

    def test_one_group_and_24_groups(self):
        self.assertEqual(groups_of([(k, 1, ("a",)) for k in range(24)]), [("a", [(k, 1, ()) for k in range(24)])])
        self.assertEqual(groups_of([(k, 1, (NAMES[23 - k],)) for k in range(24)]),
                         [(NAMES[23 - k], [(k, 1, ())]) for k in range(24)])

    def test_the_kinds_of_what_is_told(self):
        told = groups_of([(0, 1, ("a",))])
        self.assertEqual([type(told), type(told[0]), type(told[0][1]), type(told[0][1][0])], [list, tuple, list, tuple])

    def test_a_path_without_names_is_refused(self):
        for crowd in ([(0, 1, ())], [(0, 1, ()), (1, 2, ())], crowd_of(many_units(24)),
                      [(0, 1, ("a",)), (1, 1, ())], [(0, 1, ()), (1, 1, ("a",))]):
            with self.subTest(crowd):
                with self.assertRaises(NoLevel):
                    groups_of(crowd)


class NothingSharedTest(unittest.TestCase):
    """Promise 5."""

    QUESTIONS = (
        (need_units, UNITS), (need_units, [unit(), unit()]), (need_units, [unit(), None]), (need_units, many_units(25)),
        (listing_of, LINES), (listing_of, ["a 1 1 -", "A", None]), (listing_of, many_lines(25)),
        (listing_lines, UNITS), (values_of, UNITS), (crowd_of, UNITS),
        (groups_of, crowd_of(UNITS)), (groups_of, [(0, 1, ("a",)), (1, 1, ())]), (groups_of, []),
    )

    def answer(self, ask, thing):
        try:
            return ask(thing)
        except SpeakError as refusal:
            return type(refusal).__name__, vars(refusal)

    def test_what_is_handed_in_is_not_changed(self):
        for ask, thing in self.QUESTIONS:
            before = copy.deepcopy(thing)
            self.answer(ask, thing)
            with self.subTest(ask.__name__, thing=before):
                self.assertEqual(thing, before)

    def test_equal_questions_have_equal_answers(self):
        for ask, thing in self.QUESTIONS:
            with self.subTest(ask.__name__, thing=thing):
                first = self.answer(ask, copy.deepcopy(thing))
                self.assertEqual(self.answer(ask, copy.deepcopy(thing)), first)
                self.assertEqual(self.answer(ask, thing), first)

    def test_what_is_done_to_what_was_told_changes_nothing(self):
        for ask, thing in ((listing_of, LINES), (listing_lines, UNITS), (values_of, UNITS), (crowd_of, UNITS),
                           (groups_of, crowd_of(UNITS)), (groups_of, [])):
            handed_in, before = copy.deepcopy(thing), copy.deepcopy(thing)
            told = ask(handed_in)
            kept = copy.deepcopy(told)
            told.append("more")
            told.reverse()
            with self.subTest(ask.__name__):
                self.assertEqual(handed_in, before)
                self.assertEqual(ask(handed_in), kept)

    def test_members_are_the_askers_own(self):
        crowd = crowd_of(UNITS)
        told = groups_of(crowd)
        kept = copy.deepcopy(told)
        for name, members in told:
            members.clear()
        self.assertEqual(crowd, crowd_of(UNITS))
        self.assertEqual(groups_of(crowd), kept)

    def test_what_is_done_behind_the_call_to_what_was_handed_in_changes_nothing(self):
        for ask, thing in ((listing_of, LINES), (listing_lines, UNITS), (values_of, UNITS), (crowd_of, UNITS),
                           (groups_of, crowd_of(UNITS))):
            handed_in = copy.deepcopy(thing)
            told = ask(handed_in)
            kept = copy.deepcopy(told)
            handed_in.clear()
            with self.subTest(ask.__name__):
                self.assertEqual(told, kept)
                self.assertEqual(ask(thing), kept)

    def test_a_refusal_leaves_nothing_behind(self):
        for lines in (["zz 1 1 -", "A"], ["ann 1 1 -", "ann 1 1 -"], ["ann 1 1 x", None]):
            with self.assertRaises(NoListing):
                listing_of(lines)
            self.assertEqual(listing_of(LINES), UNITS)
        with self.assertRaises(NoLevel):
            groups_of([(0, 1, ("north",)), (1, 1, ())])
        self.assertEqual(groups_of([(5, 2, ("north",))]), [("north", [(5, 2, ())])])


if __name__ == "__main__":
    unittest.main()
