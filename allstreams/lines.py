"""The lines of statements: what is read behind the names that a line gives."""

from allstreams.errors import NotAText
from allstreams.lanes import LEAST, MOST
from allstreams.ratios import Ratio
from allstreams.words import DIGITS, LETTERS, WORDS


def read_more_names(scanner, names):
    """The names with commas between of which the first ones have been read, and the spaces behind them."""
    told = list(names)
    scanner.skip()
    while scanner.ahead() == ",":
        scanner.step()
        scanner.skip()
        told.append(scanner.read_name())
        scanner.skip()
    return tuple(told)


def read_statement(scanner, first):
    """The statement of a line whose first word has been read."""
    if first in WORDS:
        raise NotAText(scanner.place)
    given = read_more_names(scanner, [first])
    scanner.need("=")
    scanner.skip()
    if len(given) > 1:
        statement = read_of_several(scanner, given)
    elif scanner.is_ahead(LETTERS):
        statement = read_of_one(scanner, given[0])
    else:
        statement = ("sum", given[0], read_terms(scanner, []))
    scanner.need_line_end()
    return statement


def read_of_several(scanner, given):
    """What gives several wires: a deal or a call."""
    word = scanner.read_word()
    if word == "deal" and len(given) <= MOST:
        scanner.need_gap()
        return ("deal", given, scanner.read_name())
    if word in WORDS:
        raise NotAText(scanner.place)
    scanner.skip()
    return read_call(scanner, given, word)


def read_of_one(scanner, given):
    """What gives one wire and begins with a letter."""
    word = scanner.read_word()
    if word in READERS:
        return read_behind(scanner, given, word)
    if word in WORDS:
        raise NotAText(scanner.place)
    scanner.skip()
    if scanner.ahead() == "(":
        return read_call(scanner, (given,), word)
    return ("sum", given, read_terms(scanner, [(Ratio(1), word)]))


def read_behind(scanner, given, word):
    """The statement of a box whose word has been read."""
    read = READERS[word]
    return read(scanner, given)


def read_call(scanner, given, name):
    scanner.need("(")
    scanner.skip()
    taken = ()
    if scanner.ahead() != ")":
        taken = read_more_names(scanner, [scanner.read_name()])
    scanner.need(")")
    return ("call", given, name, taken)


def read_terms(scanner, terms):
    """The terms of a sum of which the first ones have been read, and the spaces behind them."""
    told = list(terms)
    if not told:
        told.append(read_signed_term(scanner))
    while scanner.is_ahead("+-"):
        if scanner.ahead() == "+":
            scanner.step()
            scanner.skip()
            told.append(read_term(scanner))
        else:
            told.append(read_signed_term(scanner))
    return tuple(told)


def read_signed_term(scanner):
    """A term, perhaps with a "-" ahead."""
    if scanner.ahead() != "-":
        return read_term(scanner)
    scanner.step()
    scanner.skip()
    ratio, name = read_term(scanner)
    return (-ratio, name)


def read_term(scanner):
    """A name, or a number, "*" and a name, and the spaces behind."""
    ratio = Ratio(1)
    if scanner.is_ahead(DIGITS):
        ratio = scanner.read_number()
        scanner.skip()
        scanner.need("*")
        scanner.skip()
    name = scanner.read_name()
    scanner.skip()
    return (ratio, name)


def read_items(scanner):
    """Ratios in brackets with commas between."""
    scanner.skip()
    scanner.need("[")
    items = [read_item(scanner)]
    while scanner.ahead() == ",":
        scanner.step()
        items.append(read_item(scanner))
    scanner.need("]")
    return tuple(items)


def read_item(scanner):
    """A number, perhaps with a "-" ahead, and the spaces on both sides."""
    scanner.skip()
    sign = 1
    if scanner.ahead() == "-":
        sign = -1
        scanner.step()
        scanner.skip()
    item = scanner.read_number() * sign
    scanner.skip()
    return item


def read_delay(scanner, given):
    items = read_items(scanner)
    scanner.skip()
    return ("delay", given, items, scanner.read_name())


def read_source(scanner, given):
    return ("source", given, read_items(scanner))


def read_many(scanner):
    """The number behind the word of a thin, a stretch or a hold."""
    scanner.need_gap()
    many = scanner.read_within(LEAST, MOST)
    scanner.need_gap()
    return many


def read_thin(scanner, given):
    many = read_many(scanner)
    rest = scanner.read_within(0, many - 1)
    scanner.need_gap()
    return ("thin", given, many, rest, scanner.read_name())


def read_stretch(scanner, given):
    many = read_many(scanner)
    return ("stretch", given, many, scanner.read_name())


def read_hold(scanner, given):
    many = read_many(scanner)
    return ("hold", given, many, scanner.read_name())


def read_weave(scanner, given):
    """Names with spaces between, as many as can be woven."""
    names = []
    for _ in range(LEAST):
        scanner.need_gap()
        names.append(scanner.read_name())
    scanner.skip()
    while len(names) < MOST and scanner.is_ahead(LETTERS):
        names.append(scanner.read_name())
        scanner.skip()
    return ("weave", given, tuple(names))


READERS = {
    "delay": read_delay,
    "source": read_source,
    "thin": read_thin,
    "stretch": read_stretch,
    "hold": read_hold,
    "weave": read_weave,
}
