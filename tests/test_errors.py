import copy
import unittest

from fewspeak import errors

FIELDS = {
    "NoListing": ("line", "word"),
    "NoUnits": (),
    "NoPlan": ("place",),
    "NoLevel": (),
    "NoThrow": ("place",),
    "TooMany": (),
    "NoSpread": ("one", "other"),
    "NoTurn": (),
    "NoThing": (),
    "NoAnswers": (),
    "NoBounds": (),
    "NoTable": ("row",),
    "NoLot": (),
}


def made(name):
    """The refusal of this name, made of 70, 71 .. as its fields."""
    return getattr(errors, name)(*range(70, 70 + len(FIELDS[name])))


class RefusalsTest(unittest.TestCase):
    """Promise 6."""

    def test_speak_error_stands_straight_under_value_error(self):
        self.assertEqual(errors.SpeakError.__bases__, (ValueError,))

    def test_there_are_just_the_thirteen(self):
        found = [
            name
            for name, thing in vars(errors).items()
            if isinstance(thing, type) and issubclass(thing, errors.SpeakError) and thing is not errors.SpeakError
        ]
        self.assertEqual(sorted(found), sorted(FIELDS))

    def test_each_stands_straight_under_speak_error(self):
        for name in FIELDS:
            with self.subTest(name):
                self.assertEqual(getattr(errors, name).__bases__, (errors.SpeakError,))

    def test_each_is_taken_as_itself_and_as_none_of_the_others(self):
        for name in FIELDS:
            refusal = made(name)
            self.assertIsInstance(refusal, errors.SpeakError)
            self.assertIsInstance(refusal, ValueError)
            for other in FIELDS:
                with self.subTest(name, other=other):
                    self.assertEqual(isinstance(refusal, getattr(errors, other)), other == name)

    def test_fields_hold_what_it_was_made_of_in_their_order(self):
        for name, fields in FIELDS.items():
            refusal = made(name)
            for number, field in enumerate(fields):
                with self.subTest(name, field=field):
                    self.assertEqual(getattr(refusal, field), 70 + number)

    def test_each_can_be_raised_and_taken(self):
        for name, fields in FIELDS.items():
            with self.subTest(name):
                with self.assertRaises(errors.SpeakError) as caught:
                    raise made(name)
                self.assertEqual([getattr(caught.exception, field) for field in fields],
                                 list(range(70, 70 + len(fields))))

    def test_two_refusals_have_nothing_in_common(self):
        one = errors.NoListing(1, 2)
        other = errors.NoListing(3, 4)
        self.assertEqual((one.line, one.word, other.line, other.word), (1, 2, 3, 4))

    def test_a_copy_has_the_same_fields(self):
        for name, fields in FIELDS.items():
            with self.subTest(name):
                again = copy.copy(made(name))
                self.assertEqual([getattr(again, field) for field in fields],
                                 list(range(70, 70 + len(fields))))


if __name__ == "__main__":
    unittest.main()
