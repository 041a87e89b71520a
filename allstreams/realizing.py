"""Machines at rest that are made of quotients."""

from allstreams.machines import Machine
from allstreams.matrices import Matrix


def machine_by_rows(lines, ins, outs):
    """The Machine of a matrix told row by row, each a pair: the tops of the quotients, and the bottom of them all.

    States of a row are what has been found already of its items in later turns.
    """
    sizes = [max([bottom.degree(), *[top.degree() for top in tops]]) for tops, bottom in lines]
    many = sum(sizes)
    a, b, c, d = [], [], [], []
    first = 0
    for (tops, bottom), size in zip(lines, sizes):
        now = [top.part(0) for top in tops]
        d.append(now)
        c.append(unit(first if size else many, many))
        for number in range(1, size + 1):
            back = bottom.part(number)
            row = unit(first + number if number < size else many, many)
            row[first] = row[first] - back
            a.append(row)
            b.append([top.part(number) - back * direct for top, direct in zip(tops, now)])
        first += size
    width = sum(ins)
    return Machine(Matrix(a, many), Matrix(b, width), Matrix(c, many), Matrix(d, width), [0] * many, ins, outs)


def unit(place, many):
    """A row with 1 at a place, and 0 elsewhere."""
    return [1 if at == place else 0 for at in range(many)]


def machine_by_columns(lines, ins, outs):
    """The Machine of a matrix that is told column by column."""
    turned = machine_by_rows(lines, outs, ins)
    return Machine(
        turned.a.turned(), turned.c.turned(), turned.b.turned(), turned.d.turned(), turned.start, ins, outs
    )
