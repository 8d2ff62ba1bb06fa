"""Answers that are lacking in part, and the stretches in which their total and their mean can lie."""

from fewspeak.errors import NoAnswers
from fewspeak.fractions import share
from fewspeak.words import is_list_of, is_whole

MOST_ANSWERS = 24
MOST_WEIGHT = 1000000
ANSWER_BOUND = 1000000000
WORDS = ("yes", "no", "open")


def is_bounded(weight, low, high):
    return (
        is_whole(weight, 1, MOST_WEIGHT)
        and is_whole(low, -ANSWER_BOUND, ANSWER_BOUND)
        and is_whole(high, low, ANSWER_BOUND)
    )


def is_answer(thing):
    return isinstance(thing, tuple) and len(thing) == 3 and is_bounded(thing[0], thing[1], thing[2])


def is_worded_answer(thing):
    return isinstance(thing, tuple) and len(thing) == 4 and is_answer(thing[:3]) and is_word(thing[3])


def is_word(thing):
    return isinstance(thing, str) and thing in WORDS


def need_answers(answers, is_one):
    if not is_list_of(answers, MOST_ANSWERS, is_one):
        raise NoAnswers()


def total_stretch(answers):
    need_answers(answers, is_answer)
    # No weight is below nought, so that the least answers make the least total.
    lows = [low for weight, low, high in answers]
    highs = [high for weight, low, high in answers]
    return (total_by(answers, lows), total_by(answers, highs), lows, highs)


def total_by(answers, filling):
    return sum([answers[place][0] * told for place, told in enumerate(filling) if told is not None])


def weight_by(answers, filling):
    return sum([answers[place][0] for place, told in enumerate(filling) if told is not None])


def mean_stretch(answers):
    need_answers(answers, is_worded_answer)
    if all([word == "no" for weight, low, high, word in answers]):
        return None
    lows = least_filling(answers)
    # The greatest mean is the least one of the answers with their signs turned round.
    turned = [(weight, -high, -low, word) for weight, low, high, word in answers]
    highs = [None if told is None else -told for told in least_filling(turned)]
    return (mean_by(answers, lows), mean_by(answers, highs), lows, highs)


def mean_by(answers, filling):
    return share(total_by(answers, filling), weight_by(answers, filling))


def least_filling(answers):
    filling = [low if word == "yes" else None for weight, low, high, word in answers]
    may_count = [place for place, answer in enumerate(answers) if answer[3] == "open"]
    # From the least one on each that lies below the mean so far lowers it; behind the first that doesn't none does.
    for place in sorted(may_count, key=lambda number: answers[number][1]):
        low = answers[place][1]
        if counts_none(filling) or low * weight_by(answers, filling) < total_by(answers, filling):
            filling[place] = low
    return filling


def counts_none(filling):
    return all([told is None for told in filling])
