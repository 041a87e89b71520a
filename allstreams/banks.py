"""Banks: streams split by filters, joined again, and given back."""

from allstreams.checks import is_integer, need_list, need_whole
from allstreams.errors import BadValue, NotUndone
from allstreams.grids import columns_of
from allstreams.lowest import lowered
from allstreams.polys import Poly, quotient_and_rest
from allstreams.quotientmatrices import QuotientMatrix
from allstreams.quotients import Quotient, need_quotient
from allstreams.realizing import machine_by_columns, machine_by_rows
from allstreams.ruled import stretched_poly, stretched_quotient
from allstreams.thinning import thinned_bottom


def split_bank(filters, many):
    need_filters(filters)
    need_from_two(many)
    return machine_by_rows([split_lanes(one, many) for one in filters], [many], [1] * len(filters))


def join_bank(filters, many):
    need_filters(filters)
    need_from_two(many)
    return machine_by_columns([join_lanes(one, many) for one in filters], [1] * len(filters), [many])


def need_filters(values):
    for value in need_list(values):
        need_quotient(value)
    if len(values) == 0:
        raise BadValue(values)


def need_from_two(value):
    if not is_integer(value) or value < 2:
        raise BadValue(value)


def join_lanes(one, many):
    """A pair: for each rest by many the top of the parts of a filter whose numbers leave it, and one bottom."""
    bottom = thinned_bottom(one.bottom, many)
    top = one.top * quotient_and_rest(stretched_poly(bottom, many), one.bottom)[0]
    return [Poly(top.parts[rest::many]) for rest in range(many)], bottom


def split_lanes(one, many):
    """The same for the lanes of what a split takes: but for the first one, a lane is behind the item that it makes."""
    tops, bottom = join_lanes(one, many)
    return [tops[0], *[top.raised(1) for top in tops[:0:-1]]], bottom


def quotients_of(lines):
    """Rows of Quotients."""
    return [[Quotient(top, bottom) for top in tops] for tops, bottom in lines]


def split_matrix(filters, many):
    return QuotientMatrix(quotients_of([split_lanes(one, many) for one in filters]), many)


def join_matrix(filters, many):
    return QuotientMatrix(quotients_of([join_lanes(one, many) for one in filters]), many).turned()


def given_back(splits, joins, many):
    need_filters(splits)
    need_filters(joins)
    if len(joins) != len(splits):
        raise BadValue(joins)
    need_from_two(many)
    both = join_matrix(joins, many) * split_matrix(splits, many)
    filled = [lane for lane, entry in enumerate(both.rows[0]) if entry.top.parts]
    if len(filled) != 1:
        return None
    # All lanes but the first one come a turn late, so this is not below 0.
    late = many * both.rows[0][filled[0]].low() - filled[0]
    return late if both == late_matrix(late, many) else None


def late_matrix(late, many):
    """The matrix, for lanes of so many items, of a stream that comes late."""
    rows = []
    for lane in range(many):
        turns, given = (late - lane + many - 1) // many, (lane - late) % many
        rows.append([Poly([1]).raised(turns) if place == given else 0 for place in range(many)])
    return QuotientMatrix(rows, many)


def second_half(filters, many, late):
    need_filters(filters)
    need_from_two(many)
    need_whole(late)
    left, diagonal, columns = lowered(split_matrix(filters, many))
    if len(diagonal) < many or max([entry.low() for entry in diagonal]) > late:
        raise NotUndone()
    scaled = [[Quotient(entry.raised(late) * step.bottom, step.top) for entry in row]
              for step, row in zip(diagonal, left)]
    undoing = QuotientMatrix(columns_of(columns, many), many) * QuotientMatrix(scaled, len(filters))
    return tuple([filter_of(column, many) for column in columns_of(undoing.rows, undoing.width)])


def filter_of(lanes, many):
    """The filter whose parts with numbers that leave a rest by many are those of the lane of this number."""
    whole = Quotient(0, 1)
    for rest, lane in enumerate(lanes):
        whole = whole + stretched_quotient(lane, many) * Poly([1]).raised(rest)
    return whole
