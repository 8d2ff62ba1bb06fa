"""Whole numbers, names and lists, told of any thing, and numbers read from texts."""

LETTERS = "abcdefghijklmnopqrstuvwxyz"
FIGURES = "0123456789"
MOST_LETTERS = 8
MOST_FIGURES = 12


def is_whole(thing, low, high):
    # Python counts True and False among the ints; here they are no numbers.
    return isinstance(thing, int) and not isinstance(thing, bool) and low <= thing <= high


def is_made_of(text, signs, most):
    return 1 <= len(text) <= most and all([sign in signs for sign in text])


def is_name(thing):
    return isinstance(thing, str) and is_made_of(thing, LETTERS, MOST_LETTERS)


def is_list_of(thing, most, is_one):
    return isinstance(thing, list) and len(thing) <= most and all([is_one(part) for part in thing])


def number_of(text, low, high):
    figures = text[1:] if text.startswith("-") else text
    if not is_made_of(figures, FIGURES, MOST_FIGURES):
        return None
    if figures.startswith("0") and text != "0":
        return None
    number = int(text)
    return number if low <= number <= high else None
