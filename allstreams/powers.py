"""Powers of whatever can be multiplied."""


def powered(base, exponent, one):
    """The base to the power of a whole number; one is its power 0."""
    result = one
    left = exponent
    while left:
        if left & 1:
            result = result * base
        left = left // 2
        if left:
            base = base * base
    return result
