"""Fractions: tuples (top, bottom) in lowest terms, the bottom from 1 on."""

from stoke.errors import NoNumber

NOUGHT = (0, 1)
WHOLE = (1, 1)


def divisor(one, other):
    greater = abs(one)
    lesser = abs(other)
    while lesser != 0:
        rest = greater % lesser
        greater = lesser
        lesser = rest
    return greater


def fraction(top, bottom):
    if bottom == 0:
        raise NoNumber("the bottom of a fraction is 0")
    common = divisor(top, bottom)
    # The sign goes to the top: a bottom is never below 1.
    if bottom < 0:
        common = -common
    return (top // common, bottom // common)


def plus(one, other):
    return fraction(one[0] * other[1] + other[0] * one[1], one[1] * other[1])


def minus(one, other):
    return fraction(one[0] * other[1] - other[0] * one[1], one[1] * other[1])


def times(one, other):
    return fraction(one[0] * other[0], one[1] * other[1])


def under(one, other):
    return one[0] * other[1] < other[0] * one[1]
