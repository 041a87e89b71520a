"""Nets that are told by statements, by lines and by texts."""

from allstreams.checks import need_list
from allstreams.errors import BadValue, HasSource, TooMany, Unpaced
from allstreams.netboxes import equation_row, equations_in, is_net_statement, is_rule_term, names_of, paces_in
from allstreams.netlines import read_net_head, read_net_statement
from allstreams.nets import MOST_COLUMNS, Net, lane_numbers, need_net
from allstreams.paces import Ties, least_integers
from allstreams.polymatrices import PolyMatrix
from allstreams.reader import need_signs
from allstreams.scanner import Scanner
from allstreams.statements import as_tuples
from allstreams.wiring import need_text, need_together, need_unlike_names


def net_of_statements(ends, statements):
    need_unlike_names(ends)
    if len(ends) == 0:
        raise BadValue(ends)
    for statement in need_list(statements):
        if not is_net_statement(statement):
            raise BadValue(statement)
    return net_by(ends, statements)


def net_by(ends, statements):
    """The Net of statements of the right form; BadValue holds them if an end does not occur."""
    rows = [as_tuples(statement) for statement in statements]
    groups = [names_of(row) for row in rows]
    occurring = {name: True for names in groups for name in names}
    if not all([end in occurring for end in ends]):
        raise BadValue(statements)
    wires = list({name: True for name in [*ends, *occurring]})
    need_together(wires, groups)
    told = net_paces(wires, rows)
    hidden = wires[len(ends):]
    width = sum(told.values())
    if width > MOST_COLUMNS:
        raise TooMany(MOST_COLUMNS)
    lanes = lane_numbers([*hidden, *ends], told)
    equations = [equation_row(terms, lanes, told, width) for row in rows for terms in equations_in(row, told)]
    return Net(ends, hidden, told, PolyMatrix(equations, width))


def net_paces(wires, rows):
    """The paces of wires that hang together."""
    ties = Ties()
    for number, row in enumerate(rows, start=1):
        if not ties.tie(paces_in(row)):
            raise Unpaced(number)
    return dict(zip(wires, least_integers([ties.sizes[wire] for wire in wires])))


def rule_rows(net, terms):
    need_net(net)
    for term in need_list(terms):
        if not is_rule_term(term) or term[1] not in net.paces:
            raise BadValue(term)
    if len({net.paces[name]: True for _, name, _ in terms}) != 1:
        raise BadValue(terms)
    width = net.rows.width
    lanes = lane_numbers(net.hidden + net.ends, net.paces)
    equations = equations_in(("rule", as_tuples(terms)), net.paces)
    return PolyMatrix([equation_row(equation, lanes, net.paces, width) for equation in equations], width)


def read_net(text):
    need_signs(text)
    scanner = Scanner(text)
    scanner.skip_empty()
    scanner.need("net")
    name, ends = read_net_head(scanner, [])
    statements = read_net_statements(scanner)
    return name, net_by(ends, tuple(statements))


def read_net_statements(scanner):
    """The statements up to the end, at least one."""
    scanner.skip_empty()
    statements = [read_net_statement(scanner)]
    scanner.skip_empty()
    while scanner.ahead() != "":
        statements.append(read_net_statement(scanner))
        scanner.skip_empty()
    return statements


def net_of(text):
    need_text(text)
    for statement in text.statements:
        if statement[0] == "source":
            raise HasSource(statement[1])
    return net_by(text.ins + text.outs, [net_statement(statement) for statement in text.statements])


def net_statement(statement):
    """A box of a text as a statement of a net: of a delay the count of its beginnings stays."""
    if statement[0] != "delay":
        return statement
    word, given, items, taken = statement
    return (word, given, len(items), taken)
