"""How entries of files are written."""

from allstreams.printer import names_text, statement_text, terms_text


def entries_text(entries):
    """The lines of entries, perhaps without statements."""
    return "".join([line + "\n" for entry in entries for line in entry_lines(entry)])


def entry_lines(entry):
    if entry[0] == "text":
        _, name, ins, outs, statements = entry
        ahead = names_text(ins) + " " if ins else ""
        return [f"text {name} ({ahead}-> {names_text(outs)})", *[text_line(one) for one in statements]]
    _, name, ends, statements = entry
    return [f"net {name} ({names_text(ends)})", *[net_line(one) for one in statements]]


def text_line(statement):
    if statement[0] != "call":
        return statement_text(statement)
    _, given, name, taken = statement
    return f"{names_text(given)} = {name}({names_text(taken)})"


def net_line(statement):
    if statement[0] == "rule":
        return f"0 = {rule_terms_text(statement[1])}"
    if statement[0] != "delay":
        return statement_text(statement)
    _, name, many, wire = statement
    return f"{name} = delay {many} {wire}"


def rule_terms_text(terms):
    """The terms of a rule: how many places on stands right behind a wire, 0 not at all."""
    return terms_text([(ratio, f"{name}[{later}]" if later else name) for ratio, name, later in terms])
