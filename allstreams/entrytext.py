"""How entries of files are written."""

from allstreams.printer import deal_text, delay_text, names_text, source_text, spread_text, sum_text, terms_text
from allstreams.printer import thin_text, weave_text


def entries_text(entries):
    """The lines of entries, perhaps without statements."""
    return "".join([line + "\n" for entry in entries for line in entry_lines(entry)])


def entry_lines(entry):
    if entry[0] == "text":
        _, name, ins, outs, statements = entry
        ahead = names_text(ins) + " " if ins else ""
        return [f"text {name} ({ahead}-> {names_text(outs)})", *[told_line(one, TEXT_WRITERS) for one in statements]]
    _, name, ends, statements = entry
    return [f"net {name} ({names_text(ends)})", *[told_line(one, NET_WRITERS) for one in statements]]


def told_line(statement, writers):
    write = writers[statement[0]]
    return write(statement)


def call_text(statement):
    _, given, name, taken = statement
    return f"{names_text(given)} = {name}({names_text(taken)})"


def net_delay_text(statement):
    _, name, many, wire = statement
    return f"{name} = delay {many} {wire}"


def rule_text(statement):
    return f"0 = {rule_terms_text(statement[1])}"


def rule_terms_text(terms):
    """The terms of a rule: how many places on stands right behind a wire, 0 not at all."""
    return terms_text([(ratio, f"{name}[{later}]" if later else name) for ratio, name, later in terms])


TEXT_WRITERS = {
    "sum": sum_text,
    "delay": delay_text,
    "source": source_text,
    "thin": thin_text,
    "stretch": spread_text,
    "hold": spread_text,
    "deal": deal_text,
    "weave": weave_text,
    "call": call_text,
}

NET_WRITERS = {
    "sum": sum_text,
    "delay": net_delay_text,
    "thin": thin_text,
    "stretch": spread_text,
    "hold": spread_text,
    "deal": deal_text,
    "weave": weave_text,
    "rule": rule_text,
}
