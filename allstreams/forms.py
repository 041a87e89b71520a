"""Forms of nets: what they say of their ends alone."""

from allstreams.errors import BadValue, TooMany, Unlike
from allstreams.hermite import form_and_relations, pivot_of
from allstreams.nets import MOST_COLUMNS, Net, need_net, with_order
from allstreams.polymatrices import PolyMatrix
from allstreams.ratios import Ratio


class Form:
    """The ends of a net in ascending order, their paces, and the hermite form of its outer equations."""

    def __init__(self, ends, paces, rows):
        self.ends = ends
        self.paces = paces
        self.rows = rows

    def __eq__(self, other):
        if not isinstance(other, Form) or self.ends != other.ends:
            return False
        return self.paces == other.paces and self.rows == other.rows


def need_form(value):
    if not isinstance(value, Form):
        raise BadValue(value)


def normal_form(net):
    need_net(net)
    ends = sorted(net.ends)
    rows = whole_form(with_order(net, ends, net.hidden))
    paces = [net.paces[end] for end in ends]
    hidden = net.rows.width - sum(paces)
    # The hidden columns come first: so rows that begin behind them tell all equations of the ends alone.
    outer = [row[hidden:] for row in rows if pivot_of(row) >= hidden]
    return Form(tuple(ends), tuple(paces), PolyMatrix(outer, sum(paces)))


def whole_form(net):
    """The rows of the hermite form of all equations."""
    return form_and_relations(net.rows)[0]


def net_of_form(form):
    need_form(form)
    return Net(form.ends, [], dict(zip(form.ends, form.paces)), form.rows)


def like_ends(one, other):
    need_net(one)
    need_net(other)
    if sorted(one.ends) != sorted(other.ends):
        return None
    return common_turns(one, other, one.ends)


def common_turns(one, other, names):
    """The least numbers of turns of each over which these ends of both have the same paces; None if there are none."""
    ratios = [Ratio(other.paces[name], one.paces[name]) for name in names]
    if any([ratio != ratios[0] for ratio in ratios]):
        return None
    return ratios[0].top, ratios[0].bottom


def alike_nets(one, other):
    turns = like_ends(one, other)
    if turns is None:
        raise Unlike()
    if turns[0] * sum([one.paces[end] for end in one.ends]) > MOST_COLUMNS:
        raise TooMany(MOST_COLUMNS)
    return form_over(one, turns[0]) == form_over(other, turns[1])


def form_over(net, turns):
    """The form of a net over so many turns; only its ends need to fit."""
    form = normal_form(net)
    return form if turns == 1 else normal_form(net_of_form(form).over(turns))
