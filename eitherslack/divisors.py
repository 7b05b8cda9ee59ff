"""The greatest common divisor of two whole numbers, quick for such of many thousand figures too."""

# Up to so many bits Euclid's plain steps are as quick as any.
PLAIN_BITS = 6000
LEADING_BITS = 480


def first_steps(one, other):
    """Euclid's first steps, as four numbers: what becomes of the two is a, b and c, d times them."""
    a, b, c, d = 1, 0, 0, 1
    # The bits that are not handed in could change the steps behind these.
    while other.bit_length() > LEADING_BITS // 2:
        quotient, rest = divmod(one, other)
        one, other = other, rest
        a, b, c, d = c, d, a - quotient * c, b - quotient * d
    return a, b, c, d


def shortened(one, other):
    """Two lesser numbers that have the same common divisor; both handed in are above 0."""
    one, other = other, one % other
    rest = max(one.bit_length() - LEADING_BITS, 0)
    a, b, c, d = first_steps(one >> rest, other >> rest)
    # Whatever the steps are, a * d - b * c is 1 or -1: so they change no common divisor.
    left, right = abs(a * one + b * other), abs(c * one + d * other)
    if left + right < one + other:
        return left, right
    return one, other


def common_divisor(one, other):
    """The greatest number that divides both; 0 where both are 0."""
    one, other = abs(one), abs(other)
    while other.bit_length() > PLAIN_BITS:
        one, other = shortened(one, other)
    while other != 0:
        one, other = other, one % other
    return one
