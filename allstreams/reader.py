"""Texts that are written in lines."""

from allstreams.calls import Calls, Draft
from allstreams.errors import BadValue, NotAText
from allstreams.lines import read_statement
from allstreams.scanner import Scanner
from allstreams.wiring import Text

LONGEST = 20000


def read_texts(text):
    need_signs(text)
    drafts = read_drafts(Scanner(text))
    calls = Calls(drafts)
    return [Text(draft.name, draft.ins, draft.outs, calls.unfolded(draft)) for draft in drafts]


def need_signs(value):
    """A string that can be looked at as lines."""
    if not isinstance(value, str) or len(value) > LONGEST:
        raise BadValue(value)
    if not all([" " <= sign <= "~" or sign == "\n" for sign in value]):
        raise BadValue(value)


def read_drafts(scanner):
    """The texts of a string, their calls as they are."""
    scanner.skip_empty()
    scanner.need("text")
    heads = [read_head(scanner, [])]
    rows = [[]]
    scanner.skip_empty()
    while scanner.ahead() != "" or not rows[-1]:
        word = scanner.read_word()
        # A text without statements yet is followed by none.
        if word == "text" and rows[-1]:
            heads.append(read_head(scanner, [name for name, _, _ in heads]))
            rows.append([])
        else:
            rows[-1].append(read_statement(scanner, word))
        scanner.skip_empty()
    return [Draft(name, ins, outs, statements) for (name, ins, outs), statements in zip(heads, rows)]


def read_head(scanner, names):
    """The name of a text, none of these, its ins and its outs, behind the word "text"."""
    scanner.need_gap()
    name = scanner.read_name()
    if name in names:
        raise NotAText(scanner.place)
    scanner.skip()
    ins, outs = read_ins_and_outs(scanner)
    scanner.need_line_end()
    return name, ins, outs


def read_ins_and_outs(scanner):
    scanner.need("(")
    scanner.skip()
    ins = []
    if scanner.ahead() != "-":
        ins = read_unlike_names(scanner)
    scanner.need("->")
    scanner.skip()
    outs = read_unlike_names(scanner)
    scanner.need(")")
    return ins, outs


def read_unlike_names(scanner):
    """Names with commas between; one that is given again is wrong at its end."""
    names = [scanner.read_name()]
    scanner.skip()
    while scanner.ahead() == ",":
        scanner.step()
        scanner.skip()
        name = scanner.read_name()
        if name in names:
            raise NotAText(scanner.place)
        names.append(name)
        scanner.skip()
    return names
