"""The rule of a thinned stream, by the sums of the powers of the roots of the old one."""

from allstreams.polys import Poly
from allstreams.quotients import Quotient, shared_exponent
from allstreams.ratios import Ratio


def thinned_bottom(bottom, many):
    """A bottom, part 0 of it 1, by which each thinned stream goes that is a quotient by this bottom.

    Where the bottom is a poly in a power of its letter, as much of the thinning as can be is done by leaving
    out its noughts.
    """
    shared = shared_exponent(bottom, many)
    return powered_roots(Poly(bottom.parts[::shared]), many // shared)


def powered_roots(bottom, many):
    """The product of 1 - z * a to the power many, over all a with a factor 1 - z * a of the bottom, as often."""
    if many == 1:
        return bottom
    degree = bottom.degree()
    sums = Quotient(-bottom.slope().raised(1), bottom).first(many * degree + 1)[::many]
    told = [(number, total) for number, total in enumerate(sums) if number > 0 and total.top != 0]
    parts = [Ratio(1)]
    # Newton: the sums of powers tell the parts, one behind another.
    for number in range(1, degree + 1):
        terms = [total * parts[number - place] for place, total in told if place <= number]
        parts.append(summed(terms) * Ratio(-1, number))
    return Poly(parts)


def summed(terms):
    total = Ratio(0)
    for term in terms:
        total = total + term
    return total
