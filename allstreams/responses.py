"""The bottoms of the quotients whose parts are the answers of machines."""

from allstreams.fresh import lifted
from allstreams.polys import Poly
from allstreams.ratios import Ratio
from allstreams.remainders import modulus_of
from allstreams.sweeping import Sweep, filled_columns, line_after


def inverse_poly(matrix):
    """The determinant of 1 - z * matrix, a Poly in z."""
    attempt = 0
    factors = None
    while factors is None:
        factors = factors_by(matrix, modulus_of(attempt))
        attempt += 1
    product = Poly([1])
    for factor in factors:
        product = product * factor
    return product


def factors_by(matrix, modulus):
    """Polys whose product this is, None if the modulus is of no use.

    Each is told by a row, that row times the matrix, times the matrix twice and so on, until one of them is a sum of
    multiples of the rows ahead of it: only those of its own begin count, as the others leave them within themselves.
    """
    columns, bottom = filled_columns(matrix)
    sweep = Sweep(modulus)
    lines, factors = [], []
    try:
        for place in range(matrix.height):
            first = len(lines)
            if first == matrix.height:
                break
            line = ([1 if at == place else 0 for at in range(matrix.height)], 1)
            rest, shares = sweep.swept(line[0])
            while any(rest):
                sweep.take(rest, shares)
                lines.append(line)
                line = line_after(line, columns, bottom)
                rest, shares = sweep.swept(line[0])
            if len(lines) > first:
                own = lifted(sweep, lines, line, shares)[first:]
                factors.append(Poly([Ratio(1), *[-part for part in own[::-1]]]))
    except ZeroDivisionError:
        return None
    return factors
