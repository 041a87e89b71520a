"""Ratios told by what they leave by a great modulus.

Where ratios grow on the way to a result that does not, it is worked on what they leave, and the result is read
off at the end. It is tried by one modulus after another until it proves to be right: each is about the square
of the one before, and no two have a common divisor, so only finitely many are of no use.
"""

from math import isqrt


def modulus_of(attempt):
    """The number 2 to the power 128, 256, 512 and so on, and 1; of these no two have a common divisor."""
    return (1 << (128 << attempt)) + 1


def rests_of(parts, modulus):
    """What the parts leave by a modulus of the kind above: what stands above its bits is taken off first."""
    bits = modulus.bit_length() - 1
    mask = modulus - 2
    return [((part & mask) - (part >> bits)) % modulus for part in parts]


def fraction_of(rest, modulus, bound):
    """The top and the bottom, signs in either, that leave this rest: the first top of Euclid's up to the bound."""
    old, new = modulus, rest
    old_factor, factor = 0, 1
    while new > bound:
        times = old // new
        old, new = new, old - times * new
        old_factor, factor = factor, old_factor - times * factor
    return new, factor


def inverse_of(rest, modulus):
    top, bottom = fraction_of(rest, modulus, 1)
    if top != 1:
        raise ZeroDivisionError("no inverse by this modulus")
    return bottom % modulus


def centered(rest, modulus):
    """The integer nearest to 0 that leaves this rest."""
    return rest if 2 * rest < modulus else rest - modulus


def shared_bottom_of(rests, modulus):
    """A bottom of the ratios that leave these rests, if both are small beside the modulus; otherwise None."""
    bound = isqrt(modulus // 2)
    shared = 1
    for rest in rests:
        scaled = rest * shared % modulus
        if min(scaled, modulus - scaled) > bound:
            _, bottom = fraction_of(scaled, modulus, bound)
            shared = shared * abs(bottom)
        if shared > bound:
            return None
    return shared


def whole_from(rests, shared, modulus):
    """The tops over the shared bottom."""
    return [centered(rest * shared % modulus, modulus) for rest in rests]
