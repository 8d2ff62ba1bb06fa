import itertools
import random
import unittest

from fewspeak.dice import drawn
from fewspeak.duels import Duel
from fewspeak.errors import NoPlan, SpeakError
from fewspeak.nested import Each, First
from fewspeak.plans import Few, Loose, Plan, Start
from fewspeak.plantexts import plan_of
from walks import shape

BOUNDS = {"few": (0, 24), "start": (1, 100), "loose": (0, 24), "duel": (0, 24)}
KINDS = {"few": Few, "start": Start, "loose": Loose, "duel": Duel}
WORDS = ("few", "start", "loose", "duel", "each", "first", "then", "(", ")", "0", "1", "24", "25", "100", "101", "07", "-0",
         "+1", "-1", "", "Few", "few3", "x", "((", "()", "none", "1.0", "1\n", "\t")

TEXTS = ("few 3", "start 4", "loose 5", "duel 5", "each ( few 1 )", "first ( few 1 ) then ( duel 2 )",
         "each ( each ( start 3 ) )", "each ( first ( loose 2 ) then ( few 0 ) )", "first ( each ( few 1 ) ) then ( few 1 )",
         "first ( duel 1 ) then ( each ( few 1 ) )", "each ( each ( each ( duel 24 ) ) )",
         "first ( few 1 ) then ( first ( few 2 ) then ( first ( few 3 ) then ( few 4 ) ) )",
         "first ( first ( first ( few 1 ) then ( few 2 ) ) then ( few 3 ) ) then ( each ( each ( start 100 ) ) )")

MADE = (Few(3), Start(4), Loose(5), Duel(5), Each(Few(1)), First(Few(1), Duel(2)), Each(Each(Start(3))),
        Each(First(Loose(2), Few(0))), First(Each(Few(1)), Few(1)), First(Duel(1), Each(Few(1))), Each(Each(Each(Duel(24)))),
        First(Few(1), First(Few(2), First(Few(3), Few(4)))),
        First(First(First(Few(1), Few(2)), Few(3)), Each(Each(Start(100)))))


def refused_at(text):
    """The place of the first word that can't stand, or the number of words; None, where the text is a plan's."""
    words = text.split(" ")
    awaited = [("plan", 0)]
    for place, word in enumerate(words):
        if not awaited:
            return place
        kind, told = awaited.pop(0)
        if kind == "word" and word == told:
            continue
        if kind == "number" and word in [str(number) for number in range(BOUNDS[told][0], BOUNDS[told][1] + 1)]:
            continue
        if kind == "plan" and word in BOUNDS:
            awaited.insert(0, ("number", word))
        elif kind == "plan" and word == "each" and told < 3:
            awaited = [("word", "("), ("plan", told + 1), ("word", ")")] + awaited
        elif kind == "plan" and word == "first" and told < 3:
            awaited = [("word", "("), ("plan", told + 1), ("word", ")"), ("word", "then"),
                       ("word", "("), ("plan", told + 1), ("word", ")")] + awaited
        else:
            return place
    return len(words) if awaited else None


class PlanTextsTest(unittest.TestCase):
    def assertNoPlan(self, text, place):
        with self.subTest(repr(text)):
            with self.assertRaises(SpeakError) as caught:
                plan_of(text)
            self.assertIs(type(caught.exception), NoPlan)
            self.assertEqual(caught.exception.place, place)
            self.assertIs(type(caught.exception.place), int)

    def assertAsReckoned(self, text):
        place = refused_at(text)
        if place is None:
            self.assertEqual(plan_of(text).text(), text)
        else:
            self.assertNoPlan(text, place)


class ReadTest(PlanTextsTest):
    """Promises 54 and 55: what is read."""

    def test_each_kind_with_each_of_its_numbers(self):
        for word, (low, high) in BOUNDS.items():
            for number in range(low, high + 1):
                plan = plan_of(f"{word} {number}")
                self.assertIs(type(plan), KINDS[word])
                self.assertEqual(plan.step if word == "start" else plan.many, number)
                self.assertEqual(plan.text(), f"{word} {number}")

    def test_plans_within_plans(self):
        plan = plan_of("each ( few 3 )")
        self.assertEqual((type(plan), type(plan.inside), plan.inside.many), (Each, Few, 3))
        plan = plan_of("first ( duel 2 ) then ( each ( start 7 ) )")
        self.assertEqual([type(part) for part in (plan, plan.outside, plan.inside, plan.inside.inside)],
                         [First, Duel, Each, Start])
        self.assertEqual((plan.outside.many, plan.inside.inside.step), (2, 7))

    def test_the_text_of_a_plan_that_was_read(self):
        for text, plan in zip(TEXTS, MADE, strict=True):
            with self.subTest(text):
                self.assertIsInstance(plan_of(text), Plan)
                self.assertEqual(plan_of(text).text(), text)
                self.assertEqual(plan.text(), text)

    def test_a_plan_that_is_read_draws_the_same(self):
        crowd = [(place, 1 + place % 3, ("ab"[place % 2], "xy"[place // 3], "m")) for place in range(6)]
        for text, plan in zip(TEXTS, MADE, strict=True):
            if text.startswith("first ( each") or text.startswith("first ( first"):
                continue
            with self.subTest(text):
                read = plan_of(text)
                self.assertEqual(shape(read.node(crowd)), shape(plan.node(crowd)))
                self.assertEqual(read.matrix(crowd), plan.matrix(crowd))
                self.assertEqual(read.bounds(crowd), plan.bounds(crowd))

    def test_the_same_throws_draw_the_same_ones(self):
        crowd = [(place, 1, ("ab"[place % 2],)) for place in range(6)]
        for plan in (First(Few(1), Few(1)), plan_of("first ( few 1 ) then ( few 1 )")):
            self.assertEqual(drawn(plan.node(crowd), [1, 1, 0]), (3,))
            self.assertEqual(drawn(plan.node(crowd), [0, 0]), (0,))

    def test_two_that_are_read_have_nothing_in_common(self):
        one, other = plan_of("each ( few 1 )"), plan_of("each ( few 2 )")
        self.assertEqual((one.text(), other.text()), ("each ( few 1 )", "each ( few 2 )"))

    def test_random_plans_are_read_and_told_again(self):
        throws = random.Random(55)
        for number in range(300):
            plan = self.random_plan(throws, 0)
            self.assertEqual(plan_of(plan.text()).text(), plan.text())

    def random_plan(self, throws, around):
        kind = throws.randrange(6 if around < 3 else 4)
        if kind == 5:
            return First(self.random_plan(throws, around + 1), self.random_plan(throws, around + 1))
        if kind == 4:
            return Each(self.random_plan(throws, around + 1))
        return (Few, Start, Loose, Duel)[kind](throws.randrange(1, 25))


class RefusedTest(PlanTextsTest):
    """Promises 6 and 54: what is refused, and where."""

    def test_things_that_are_no_text(self):
        for thing in (None, True, False, 0, 3, 1.5, b"few 3", (), ("few", "3"), [], ["few 3"], {}, {"few": 3}, object(), str,
                      Few(3), len, range(3)):
            self.assertNoPlan(thing, 0)

    def test_the_text_without_signs_and_blanks(self):
        for text, place in (("", 0), (" ", 0), ("  ", 0), (" few 3", 0), ("few 3 ", 2), ("few  3", 1), ("few 3  ", 2),
                            ("each  ( few 3 )", 1), ("each ( few 3 ) ", 5), ("each ( few 3  )", 4), ("each (  few 3 )", 2),
                            ("few ", 1), ("each ( ", 2)):
            self.assertNoPlan(text, place)

    def test_numbers_at_and_beyond_the_bounds(self):
        for word, (low, high) in BOUNDS.items():
            self.assertEqual(plan_of(f"{word} {low}").text(), f"{word} {low}")
            self.assertEqual(plan_of(f"{word} {high}").text(), f"{word} {high}")
            for number in (low - 1, high + 1, -high, 10 ** 11, 10 ** 12, 10 ** 30, "07", "-0", "+1", "00", "01", "1.0", "1_0",
                           "", "x", "-", "--1", "1-", "few", "(", "1\n", "\t1", "one"):
                self.assertNoPlan(f"{word} {number}", 1)
                self.assertNoPlan(f"each ( {word} {number} )", 3)

    def test_words_that_are_no_plan(self):
        for word in ("Few", "FEW", "fe", "fewer", "few3", "few(", "(", ")", "then", "3", "0", "-", "Each", "few\t3", "few\n3",
                     "\nfew", "firsts"):
            self.assertNoPlan(word, 0)
            self.assertNoPlan(f"{word} 3", 0)
            self.assertNoPlan(f"each ( {word} 3 )", 2)
            self.assertNoPlan(f"first ( few 1 ) then ( {word} 3 )", 7)

    def test_texts_that_end_too_early(self):
        for text, place in (("few", 1), ("each", 1), ("each (", 2), ("each ( few", 3), ("each ( few 1", 4), ("first", 1),
                            ("first ( few 1 )", 5), ("first ( few 1 ) then", 6), ("first ( few 1 ) then (", 7),
                            ("first ( few 1 ) then ( few 2", 9)):
            self.assertNoPlan(text, place)

    def test_words_behind_the_end(self):
        for text, place in (("few 1 few 1", 2), ("few 1 )", 2), ("few 1 2", 2), ("each ( few 1 ) )", 5),
                            ("each ( few 1 ) then ( few 1 )", 5), ("first ( few 1 ) then ( few 1 ) then", 10)):
            self.assertNoPlan(text, place)

    def test_brackets_and_then_in_the_wrong_place(self):
        for text, place in (("each few 1", 1), ("each ( few 1 (", 4), ("( few 1 )", 0), ("each ( ( few 1 ) )", 2),
                            ("each [ few 1 ]", 1), ("each (few 1)", 1), ("first ( few 1 ) ( few 2 )", 5),
                            ("first ( few 1 ) Then ( few 2 )", 5), ("first ( few 1 then", 4), ("first few 1 then few 2", 1),
                            ("first ( few 1 ) then few 2", 6)):
            self.assertNoPlan(text, place)

    def test_the_first_wrong_word_goes_whatever_comes_behind_it(self):
        self.assertNoPlan("few 25 few", 1)
        self.assertNoPlan("each ( start 0 ( ( (", 3)
        self.assertNoPlan("first ( few x ) then ( few y )", 3)
        self.assertNoPlan("first ( few 1 ) then ( few y", 8)

    def test_three_deep_is_read_and_four_deep_is_not(self):
        self.assertEqual(plan_of("each ( each ( each ( few 1 ) ) )").text(), "each ( each ( each ( few 1 ) ) )")
        for word in ("each", "first"):
            self.assertNoPlan(f"each ( each ( each ( {word} ( few 1 ) ) ) )", 6)
            self.assertNoPlan(f"first ( first ( first ( {word} ( few 1 ) ) ) )", 6)
            self.assertNoPlan(f"first ( few 1 ) then ( each ( first ( few 1 ) then ( {word} ( few 1 )", 16)
            self.assertNoPlan(f"each ( each ( each ( {word}", 6)
        # Beside one another, not within, there may be more of them.
        text = "first ( each ( each ( few 1 ) ) ) then ( each ( each ( few 1 ) ) )"
        self.assertEqual(plan_of(text).text(), text)

    def test_plans_made_four_deep_have_texts_that_cant_be_read(self):
        for made, place in ((Each(Each(Each(Each(Few(1))))), 6), (First(Few(1), Each(Each(Each(Few(1))))), 11),
                            (Each(Each(Each(First(Few(1), Few(1))))), 6)):
            self.assertNoPlan(made.text(), place)

    def test_a_word_too_few_at_each_place(self):
        for text in TEXTS:
            words = text.split(" ")
            for place in range(len(words)):
                self.assertAsReckoned(" ".join(words[:place]))
                self.assertAsReckoned(" ".join(words[:place] + words[place + 1:]))

    def test_a_word_too_many_or_another_one_at_each_place(self):
        for text in TEXTS:
            words = text.split(" ")
            for place, word in itertools.product(range(len(words) + 1), WORDS):
                self.assertAsReckoned(" ".join(words[:place] + [word] + words[place:]))
                self.assertAsReckoned(" ".join(words[:place] + [word] + words[place + 1:]))

    def test_every_short_text(self):
        words = ("few", "start", "each", "first", "then", "(", ")", "0", "1", "")
        for long in range(1, 5):
            for some in itertools.product(words, repeat=long):
                self.assertAsReckoned(" ".join(some))

    def test_a_refusal_changes_nothing(self):
        self.assertNoPlan("each ( few 25 )", 3)
        self.assertEqual(plan_of("each ( few 24 )").text(), "each ( few 24 )")
        self.assertNoPlan("each ( few 25 )", 3)


if __name__ == "__main__":
    unittest.main()
