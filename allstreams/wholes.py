"""Lists of integers, the parts of polys without their bottoms.

A list without a 0 at its end is worked on packed into ONE integer, its worth at a power of two: so sums and
products of long lists are those of two integers.
"""

from math import gcd, lcm


def shared_bottom(ratios):
    """The least integer from 1 on that each bottom divides."""
    shared = 1
    for ratio in ratios:
        if ratio.bottom != 1:
            shared = lcm(shared, ratio.bottom)
    return shared


def whole_parts(ratios):
    """A pair: integers, and the bottom by which they are to be divided."""
    bottom = shared_bottom(ratios)
    if bottom == 1:
        return [ratio.top for ratio in ratios], 1
    return [ratio.top * (bottom // ratio.bottom) for ratio in ratios], bottom


def shortened(parts):
    """The parts without the 0s at the end."""
    many = len(parts)
    while many and parts[many - 1] == 0:
        many -= 1
    return list(parts[:many])


def content(parts):
    """The greatest integer that divides all parts; 0 if there is no part but 0."""
    shared = 0
    for part in parts:
        shared = gcd(shared, part)
    return shared


def primitive(parts):
    """The parts without a common divisor, their signs kept."""
    shared = content(parts)
    return [part // shared for part in parts] if shared > 1 else list(parts)


def norm(parts):
    """The sum of the sizes; that of a product is at most the product of these."""
    return sum([abs(part) for part in parts])


def greatest(parts):
    return max([abs(part) for part in parts], default=0)


def packed(parts, bits):
    """The worth at 2 to the power bits."""
    pieces = list(parts)
    size = bits
    while len(pieces) > 1:
        if len(pieces) & 1:
            pieces = [*pieces, 0]
        pieces = [low + (high << size) for low, high in zip(pieces[::2], pieces[1::2])]
        size = size * 2
    return pieces[0] if pieces else 0


def unpacked(worth, bits):
    """The parts with this worth whose sizes are below 2 to the power bits - 1."""
    many = worth.bit_length() // bits + 2
    half = 1 << (bits - 1)
    pieces = [worth + packed([half] * many, bits)]
    size = bits
    while size < bits * many:
        size = size * 2
    while size > bits:
        size = size // 2
        mask = (1 << size) - 1
        pieces = [half_piece for piece in pieces for half_piece in (piece & mask, piece >> size)]
    return shortened([piece - half for piece in pieces[:many]])


def multiplied(one, other):
    """The parts of the product."""
    if not one or not other:
        return []
    bits = (norm(one) * greatest(other)).bit_length() + 1
    return unpacked(packed(one, bits) * packed(other, bits), bits)


def divided_parts(one, other):
    """A triple (quotient, rest, scale): scale, from 1 on, times one is quotient * other + rest.

    The scale grows only where a part is not divided by the last part of other.
    """
    lead = other[-1]
    rest = list(one)
    quotient = [0 for _ in range(len(one) - len(other) + 1)]
    scale = 1
    while len(rest) >= len(other):
        factor = abs(lead) // gcd(lead, rest[-1])
        if factor != 1:
            rest = [factor * part for part in rest]
            quotient = [factor * part for part in quotient]
            scale = scale * factor
        place = len(rest) - len(other)
        times = rest[-1] // lead
        quotient[place] = times
        for number, part in enumerate(other):
            rest[place + number] = rest[place + number] - times * part
        while rest and rest[-1] == 0:
            rest.pop()
    return quotient, rest, scale
