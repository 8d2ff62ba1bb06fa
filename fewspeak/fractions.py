"""Exact fractions: tuples (top, bottom) in lowest terms, the bottom from 1 on."""


def greatest_divisor(one, other):
    while other:
        one, other = other, one % other
    return one


def least_multiple(numbers):
    found = 1
    for number in numbers:
        found = found // greatest_divisor(found, number) * number
    return found


def share(top, bottom):
    # With the sign on the top alone each fraction has just one form.
    if bottom < 0:
        return share(-top, -bottom)
    divisor = greatest_divisor(abs(top), bottom)
    return (top // divisor, bottom // divisor)


def plus(one, other):
    return share(one[0] * other[1] + other[0] * one[1], one[1] * other[1])


def minus(one, other):
    return share(one[0] * other[1] - other[0] * one[1], one[1] * other[1])


def times(one, other):
    return share(one[0] * other[0], one[1] * other[1])


def over(one, other):
    return share(one[0] * other[1], one[1] * other[0])


def below(one, other):
    return one[0] * other[1] < other[0] * one[1]


def total(fractions):
    # One bottom for all of them spares lowering the terms at each step.
    bottom = least_multiple([fraction[1] for fraction in fractions])
    return share(sum([top * (bottom // own) for top, own in fractions]), bottom)
