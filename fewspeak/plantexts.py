"""Plans read from their texts."""

from fewspeak.duels import Duel
from fewspeak.errors import NoPlan
from fewspeak.nested import Each, First
from fewspeak.plans import MOST_STEP, Few, Loose, Start
from fewspeak.words import number_of

COUNTED = ("few", "start", "loose", "duel")
MOST_AROUND = 3


def plan_of(text):
    if not isinstance(text, str):
        raise NoPlan(0)
    words = text.split(" ")
    plan, place = plan_at(words, 0, 0)
    if place < len(words):
        raise NoPlan(place)
    return plan


def plan_at(words, place, around):
    # The plan that begins at this place, within so many others, and the place behind it.
    word = word_at(words, place)
    if word in COUNTED:
        return (counted_at(words, place), place + 2)
    if word == "each" and around < MOST_AROUND:
        return each_at(words, place, around)
    if word == "first" and around < MOST_AROUND:
        return first_at(words, place, around)
    raise NoPlan(place)


def word_at(words, place):
    # Behind the last word the place is the number of words, as a text that ends too early asks for.
    if place == len(words):
        raise NoPlan(place)
    return words[place]


def behind_word(words, place, wanted):
    if word_at(words, place) != wanted:
        raise NoPlan(place)
    return place + 1


def counted_at(words, place):
    # No bound goes beyond that of the steps; and each plan refuses what it can't bear, None among it.
    number = number_of(word_at(words, place + 1), 0, MOST_STEP)
    try:
        return counted_plan(words[place], number)
    except NoPlan:
        raise NoPlan(place + 1)


def counted_plan(word, number):
    if word == "few":
        return Few(number)
    if word == "start":
        return Start(number)
    if word == "loose":
        return Loose(number)
    return Duel(number)


def each_at(words, place, around):
    inside, end = bracketed_at(words, place + 1, around + 1)
    return (Each(inside), end)


def first_at(words, place, around):
    outside, end = bracketed_at(words, place + 1, around + 1)
    inside, end = bracketed_at(words, behind_word(words, end, "then"), around + 1)
    return (First(outside, inside), end)


def bracketed_at(words, place, around):
    plan, end = plan_at(words, behind_word(words, place, "("), around)
    return (plan, behind_word(words, end, ")"))
