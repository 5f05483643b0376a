"""Whole numbers, and fractions: tuples (top, bottom) in lowest terms."""

from thankways.errors import NoNumber


def is_whole(thing):
    """Tell whether a thing of any kind is a whole number; a truth is none."""
    return isinstance(thing, int) and not isinstance(thing, bool)


def greatest_divisor(one, other):
    """The greatest number that divides two whole numbers, not both 0."""
    while other != 0:
        one, other = other, one % other
    return abs(one)


def is_fraction(thing):
    """Tell whether a thing of any kind is a fraction."""
    if not isinstance(thing, tuple) or len(thing) != 2:
        return False
    top, bottom = thing
    if not is_whole(top) or not is_whole(bottom):
        return False
    return bottom >= 1 and greatest_divisor(top, bottom) == 1


def lowest(top, bottom):
    """The fraction of two whole numbers, the second one not 0."""
    divisor = greatest_divisor(top, bottom)
    if bottom < 0:
        divisor = -divisor
    return (top // divisor, bottom // divisor)


def check_two(one, other):
    """Refuse two arguments that are not both fractions."""
    if not is_fraction(one):
        raise NoNumber(0)
    if not is_fraction(other):
        raise NoNumber(1)


def fraction(top, bottom=1):
    """The fraction that is one whole number divided by another."""
    if not is_whole(top):
        raise NoNumber(0)
    if not is_whole(bottom) or bottom == 0:
        raise NoNumber(1)
    return lowest(top, bottom)


def plus(one, other):
    """One fraction and another together."""
    check_two(one, other)
    return lowest(one[0] * other[1] + other[0] * one[1], one[1] * other[1])


def minus(one, other):
    """One fraction with another taken off."""
    check_two(one, other)
    return lowest(one[0] * other[1] - other[0] * one[1], one[1] * other[1])


def times(one, other):
    """One fraction multiplied by another."""
    check_two(one, other)
    return lowest(one[0] * other[0], one[1] * other[1])


def over(one, other):
    """One fraction divided by another, which is not 0."""
    check_two(one, other)
    if other[0] == 0:
        raise NoNumber(1)
    return lowest(one[0] * other[1], one[1] * other[0])


def below(one, other):
    """Tell whether one fraction is less than another."""
    check_two(one, other)
    return is_less(one, other)


def is_less(one, other):
    """Tell of two that are known to be fractions whether one is less than the other."""
    return one[0] * other[1] < other[0] * one[1]


def sum_of(numbers):
    """All of a list of what is known to be fractions, together."""
    top, bottom = 0, 1
    for more, parts in numbers:
        # Only bottoms are brought together on the way: dividing the sums, too, would take far longer.
        divisor = greatest_divisor(bottom, parts)
        top = top * (parts // divisor) + more * (bottom // divisor)
        bottom = bottom * (parts // divisor)
    return lowest(top, bottom)
