"""How many roots of a poly lie within the circle of the size 1, on it, and beyond it.

w = (x - 1) / (x + 1) takes the circle to the imaginary axis, and what it holds to the left of it; -1 alone
goes nowhere. There the roots are counted by Sturm's signs.
"""

from allstreams.errors import BadValue
from allstreams.polys import need_poly
from allstreams.wholes import divided_parts, multiplied, primitive, shortened, whole_parts


def root_counts(poly):
    need_poly(poly)
    if not poly.parts:
        raise BadValue(poly)
    parts, minus_ones = without_minus_one(primitive(whole_parts(poly.parts)[0]))
    even, odd = along_axis(moved_to_axis(parts))
    chain = sign_chain(even, odd)
    # More roots left than right of the axis: what Routh and Hurwitz read off the signs.
    surplus = fewer_changes(chain)
    on_axis = real_roots(chain[-1])
    off_axis = len(parts) - 1 - on_axis
    return (off_axis + surplus) // 2, minus_ones + on_axis, (off_axis - surplus) // 2


def beyond_disc(poly):
    need_poly(poly)
    return poly.degree() >= 0 and root_counts(poly) == (0, 0, poly.degree())


def without_minus_one(parts):
    """A pair: the parts of the poly without its roots -1, and how many these are."""
    many = 0
    while alternating_sum(parts) == 0:
        parts = divided_parts(parts, [1, 1])[0]
        many += 1
    return parts, many


def alternating_sum(parts):
    """The worth at -1."""
    return sum(parts[::2]) - sum(parts[1::2])


def moved_to_axis(parts):
    """The poly in w, as many times 1 - w as its degree tells; the degree stays."""
    moved = []
    power = [1]
    for part in parts[::-1]:
        raised = multiplied(moved, [1, 1])
        moved = added(raised, [part * times for times in power])
        power = multiplied(power, [1, -1])
    return moved


def added(one, other):
    many = max(len(one), len(other))
    longer = [parts + [0] * (many - len(parts)) for parts in (one, other)]
    return shortened([left + right for left, right in zip(longer[0], longer[1])])


def along_axis(parts):
    """The two real polys in y of which the worth at iy is made, without powers of i."""
    degree = len(parts) - 1
    both = [[0] * (degree + 1), [0] * (degree + 1)]
    for number, part in enumerate(parts):
        behind = degree - number
        both[behind % 2][number] = -part if behind % 4 > 1 else part
    return shortened(both[0]), shortened(both[1])


def sign_chain(one, other):
    """Sturm's chain: each is, times some number above 0, minus the rest of the two ahead of it."""
    chain = [one]
    while other:
        chain.append(other)
        one, other = other, [-part for part in primitive(divided_parts(one, other)[1])]
    return chain


def fewer_changes(chain):
    """How many changes of sign the chain loses from far below 0 to far above it."""
    above = [parts[-1] for parts in chain]
    below = [parts[-1] if len(parts) % 2 else -parts[-1] for parts in chain]
    return changes(below) - changes(above)


def changes(worths):
    return len([one for one, two in zip(worths, worths[1:]) if (one < 0) != (two < 0)])


def real_roots(parts):
    """How many real roots there are, each as often as it comes."""
    many = 0
    while len(parts) > 1:
        # One that comes n times comes n - 1 times in the common factor with the slope, where the chain ends.
        chain = sign_chain(parts, [part * number for number, part in enumerate(parts)][1:])
        many += fewer_changes(chain)
        parts = chain[-1]
    return many
