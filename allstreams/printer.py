"""The lines in which texts are written."""

from allstreams.ratios import Ratio
from allstreams.wiring import need_text


def text_text(text):
    need_text(text)
    ahead = names_text(text.ins) + " " if text.ins else ""
    lines = [f"text {text.name} ({ahead}-> {names_text(text.outs)})"]
    lines.extend([statement_text(statement) for statement in text.statements])
    return "\n".join(lines) + "\n"


def names_text(names):
    return ", ".join(names)


def statement_text(statement):
    write = WRITERS[statement[0]]
    return write(statement)


def sum_text(statement):
    _, name, terms = statement
    return f"{name} = {terms_text(terms)}"


def terms_text(terms):
    """Terms, each a ratio and what it is multiplied with, with signs between."""
    told = []
    for ratio, wire in terms:
        if told:
            told.append("-" if ratio.sign() < 0 else "+")
            told.append(term_text(ratio.size(), wire))
        else:
            sign = "-" if ratio.sign() < 0 else ""
            told.append(sign + term_text(ratio.size(), wire))
    return " ".join(told)


def term_text(size, wire):
    """A term without its sign."""
    return wire if size == Ratio(1) else f"{str(size)}*{wire}"


def items_text(items):
    told = ", ".join([str(item) for item in items])
    return f"[{told}]"


def delay_text(statement):
    _, name, items, wire = statement
    return f"{name} = delay {items_text(items)} {wire}"


def source_text(statement):
    _, name, items = statement
    return f"{name} = source {items_text(items)}"


def thin_text(statement):
    _, name, many, rest, wire = statement
    return f"{name} = thin {many} {rest} {wire}"


def spread_text(statement):
    """The line of a stretch or a hold."""
    word, name, many, wire = statement
    return f"{name} = {word} {many} {wire}"


def deal_text(statement):
    _, names, wire = statement
    return f"{names_text(names)} = deal {wire}"


def weave_text(statement):
    _, name, wires = statement
    return f"{name} = weave {' '.join(wires)}"


WRITERS = {
    "sum": sum_text,
    "delay": delay_text,
    "source": source_text,
    "thin": thin_text,
    "stretch": spread_text,
    "hold": spread_text,
    "deal": deal_text,
    "weave": weave_text,
}
