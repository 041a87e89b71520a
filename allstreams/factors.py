"""Common factors of polys whose parts are integers."""

from allstreams.remainders import inverse_of, modulus_of, rests_of, shared_bottom_of, whole_from
from allstreams.wholes import divided_parts, shortened


def common_factor(one, other):
    """A common factor of the greatest degree; two lists of integers without a 0 at the end."""
    if not one or not other:
        return one or other
    if len(one) == 1 or len(other) == 1:
        return [1]
    attempt = 0
    found = None
    while found is None:
        found = factor_by(one, other, modulus_of(attempt))
        attempt += 1
    return found


def factor_by(one, other, modulus):
    """The common factor as this modulus tells it, or None if the modulus is of no use.

    By each prime that divides the modulus the degree of the common factor is not less than it should be: so
    what divides both of them is right.
    """
    try:
        rests = factor_rests(one, other, modulus)
    except ZeroDivisionError:
        return None
    found = factor_from(rests, one, other, modulus)
    if found is None or divided_parts(one, found)[1] or divided_parts(other, found)[1]:
        return None
    return found


def factor_from(rests, one, other, modulus):
    """What leaves these rests, if the modulus is great enough; otherwise None."""
    for whole in (one, other):
        if len(whole) == len(rests):
            return whole
    shared = shared_bottom_of(rests, modulus)
    return None if shared is None else whole_from(rests, shared, modulus)


def factor_rests(one, other, modulus):
    """Euclid's last rest, its last part 1; ZeroDivisionError if the last part of some divisor has no inverse."""
    leads = other[-1] % modulus
    one = shortened(rests_of(one, modulus))
    other = shortened(rests_of(other, modulus))
    while other:
        leads = leads * other[-1] % modulus
        one, other = other, rest_times(one, other, modulus)
    # One inverse for all of them: a product has one exactly if each factor has.
    inverse_of(leads, modulus)
    inverse = inverse_of(one[-1], modulus)
    return rests_of([part * inverse for part in one], modulus)


def rest_times(one, other, modulus):
    """The rest of one, some power of the last part of other times it, by other."""
    lead = other[-1]
    rest = list(one)
    while len(rest) >= len(other):
        times = rest.pop()
        place = len(rest) + 1 - len(other)
        rest = [part * lead for part in rest]
        for number, part in enumerate(other[:-1]):
            rest[place + number] = rest[place + number] - times * part
        rest = list(rests_of(rest, modulus))
    while rest and rest[-1] == 0:
        rest.pop()
    return rest
