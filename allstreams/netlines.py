"""The lines of the statements of nets."""

from allstreams.errors import NotAText
from allstreams.lanes import MOST
from allstreams.lines import read_behind, read_signed_term, read_term, read_terms
from allstreams.ratios import Ratio
from allstreams.reader import read_unlike_names
from allstreams.words import DIGITS, LETTERS, WORDS

LONGEST_COUNT = 4

# Words that stand in nets as in texts.
SHARED = ("thin", "stretch", "hold", "weave")


def read_net_head(scanner, names):
    """The name of a net, none of these, and its ends, behind the word "net"."""
    scanner.need_gap()
    name = scanner.read_name()
    if name in names:
        raise NotAText(scanner.place)
    scanner.skip()
    scanner.need("(")
    scanner.skip()
    ends = read_unlike_names(scanner)
    scanner.need(")")
    scanner.need_line_end()
    return name, tuple(ends)


def read_whole(scanner):
    """A number of at most four digits, without a 0 ahead, or "0"."""
    if scanner.ahead() == "0":
        scanner.step()
        return 0
    return read_count(scanner)


def read_count(scanner):
    """A number of at most four digits that does not begin with 0."""
    begun = scanner.place
    if not scanner.is_ahead(DIGITS) or scanner.ahead() == "0":
        raise NotAText(scanner.place)
    while scanner.is_ahead(DIGITS) and scanner.place - begun < LONGEST_COUNT:
        scanner.step()
    return int(scanner.since(begun, 0))


def read_net_statement(scanner):
    """The statement of a line, from its first sign on."""
    if scanner.ahead() == "0":
        return read_rule(scanner)
    return read_net_box(scanner, scanner.read_word())


def read_net_box(scanner, first):
    """The statement of a line that begins with this word."""
    if first in WORDS:
        raise NotAText(scanner.place)
    given = read_dealt_names(scanner, first)
    scanner.need("=")
    scanner.skip()
    if len(given) > 1:
        scanner.need("deal")
        scanner.need_gap()
        statement = ("deal", given, scanner.read_name())
    elif scanner.is_ahead(LETTERS):
        statement = read_one(scanner, given[0])
    else:
        statement = ("sum", given[0], read_terms(scanner, []))
    scanner.need_line_end()
    return statement


def read_dealt_names(scanner, first):
    """Names with commas between, not more than a deal can give, of which the first one has been read."""
    names = [first]
    scanner.skip()
    while scanner.ahead() == "," and len(names) < MOST:
        scanner.step()
        scanner.skip()
        names.append(scanner.read_name())
        scanner.skip()
    return tuple(names)


def read_one(scanner, given):
    """What gives one wire and begins with a letter."""
    word = scanner.read_word()
    if word == "delay":
        return read_net_delay(scanner, given)
    if word in SHARED:
        return read_behind(scanner, given, word)
    if word in WORDS:
        raise NotAText(scanner.place)
    scanner.skip()
    return ("sum", given, read_terms(scanner, [(Ratio(1), word)]))


def read_net_delay(scanner, given):
    scanner.need_gap()
    many = read_count(scanner)
    scanner.need_gap()
    return ("delay", given, many, scanner.read_name())


def read_rule(scanner):
    """A line "0 = .."."""
    scanner.need("0")
    scanner.skip()
    scanner.need("=")
    scanner.skip()
    terms = read_rule_terms(scanner)
    scanner.need_line_end()
    return ("rule", terms)


def read_rule_terms(scanner):
    """Terms with "+" and "-" between, each perhaps with how many places on it stands, and the spaces behind them."""
    told = [with_place(scanner, read_signed_term(scanner))]
    while scanner.is_ahead("+-"):
        if scanner.ahead() == "+":
            scanner.step()
            scanner.skip()
            told.append(with_place(scanner, read_term(scanner)))
        else:
            told.append(with_place(scanner, read_signed_term(scanner)))
    return tuple(told)


def with_place(scanner, term):
    """The triple of a term behind which "[k]" may stand."""
    ratio, name = term
    later = 0
    if scanner.ahead() == "[":
        scanner.step()
        scanner.skip()
        later = read_whole(scanner)
        scanner.skip()
        scanner.need("]")
        scanner.skip()
    return (ratio, name, later)
