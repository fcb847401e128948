"""Fractions: tuples (top, bottom) in lowest terms, the bottom from 1 on."""

from chanceduel.errors import NoNumber


def common_divisor(one, other):
    great = abs(one)
    small = abs(other)
    while small != 0:
        rest = great % small
        great = small
        small = rest
    return great


def fraction(top, bottom):
    if bottom == 0:
        raise NoNumber("a fraction has no bottom of 0")
    divisor = common_divisor(top, bottom)
    # A divisor with the bottom's sign moves this sign to the top.
    if bottom < 0:
        divisor = -divisor
    return (top // divisor, bottom // divisor)


def plus(one, other):
    return fraction(one[0] * other[1] + other[0] * one[1], one[1] * other[1])


def minus(one, other):
    return fraction(one[0] * other[1] - other[0] * one[1], one[1] * other[1])


def times(one, other):
    return fraction(one[0] * other[0], one[1] * other[1])


def over(one, other):
    if other[0] == 0:
        raise NoNumber("there is no quotient by nought")
    return fraction(one[0] * other[1], one[1] * other[0])


def under(one, other):
    return one[0] * other[1] < other[0] * one[1]
