"""Fractions of whole numbers, and which of two lists of them is the fairer one."""


def greatest_divisor(one, other):
    while other != 0:
        rest = one % other
        one = other
        other = rest
    return one


def fraction(top, bottom):
    divisor = greatest_divisor(abs(top), bottom)
    return (top // divisor, bottom // divisor)


def common_bottom(parts):
    """The least number that the bottom of each fraction divides."""
    bottom = 1
    for part in parts:
        bottom *= part[1] // greatest_divisor(bottom, part[1])
    return bottom


def tops_over(parts, bottom):
    """The tops, rising, that the fractions have when all are brought to this one bottom."""
    return sorted([part[0] * (bottom // part[1]) for part in parts])


def is_fairer(one, other):
    bottom = common_bottom(one + other)
    # Python tells the greater one of two lists by the first place where they differ.
    return tops_over(one, bottom) > tops_over(other, bottom)
