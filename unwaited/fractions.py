"""FRACTIONS: tuples (n, d), d from 1 on, without a common divisor above 1."""

from math import gcd


def reduced(n, d):
    """Returns the FRACTION that stands for n / d."""
    divisor = gcd(n, d)
    if d < 0:
        divisor = -divisor
    return (n // divisor, d // divisor)


def added(one, other):
    """Returns the FRACTION of the sum."""
    return reduced(one[0] * other[1] + other[0] * one[1], one[1] * other[1])


def lessened(one, other):
    """Returns the FRACTION of one without the other."""
    return reduced(one[0] * other[1] - other[0] * one[1], one[1] * other[1])


def times(one, other):
    """Returns the FRACTION of the product."""
    return reduced(one[0] * other[0], one[1] * other[1])


def compared(one, other):
    """Returns -1, 0 or 1: whether one stands for less, the same, or more."""
    left = one[0] * other[1]
    right = other[0] * one[1]
    if left < right:
        return -1
    if left > right:
        return 1
    return 0


def fraction_text(fraction):
    """Returns n alone if d is 1, otherwise n, a stroke and d."""
    n, d = fraction
    if d == 1:
        return str(n)
    return f"{n}/{d}"
