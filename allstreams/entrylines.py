"""The lines of files, and lines of statements alone."""

from allstreams.errors import NotAFile, NotAText
from allstreams.lines import read_statement
from allstreams.netlines import read_net_box, read_net_head, read_rule
from allstreams.reader import need_signs, read_head
from allstreams.scanner import Scanner


def told_entries(text):
    """The entries of a string."""
    need_signs(text)
    try:
        entries = read_entries(Scanner(text))
    except NotAText as wrong:
        raise NotAFile(line_at(text, wrong.at), place_in_line(text, wrong.at)) from None
    return entries


def told_statements(text, word):
    """The statements, maybe none, of a string of lines of a text or a net, as the word tells."""
    need_signs(text)
    try:
        statements = read_statements(Scanner(text), word)
    except NotAText as wrong:
        raise NotAFile(line_at(text, wrong.at), place_in_line(text, wrong.at)) from None
    return statements


def line_at(text, at):
    """The number, from 1 on, of the line in which so many signs end."""
    return text[:at].count("\n") + 1


def place_in_line(text, at):
    """How many of so many signs stand in the line in which they end."""
    return at - (text[:at].rfind("\n") + 1)


def read_entries(scanner):
    heads, rows = [], []
    scanner.skip_empty()
    if scanner.ahead() != "":
        # Only with a word for it can a file begin.
        word = "net" if scanner.ahead() == "n" else "text"
        scanner.need(word)
        heads.append(read_heading(scanner, word, []))
        rows.append([])
        scanner.skip_empty()
    while scanner.ahead() != "" or rows and not rows[-1]:
        if heads[-1][0] == "net" and scanner.ahead() == "0":
            rows[-1].append(read_rule(scanner))
        else:
            word = scanner.read_word()
            if word in ("text", "net") and rows[-1]:
                heads.append(read_heading(scanner, word, [head[1] for head in heads]))
                rows.append([])
            else:
                rows[-1].append(read_box(scanner, heads[-1][0], word))
        scanner.skip_empty()
    return [(*head, tuple(statements)) for head, statements in zip(heads, rows)]


def read_heading(scanner, word, names):
    """What an entry begins with: its word, its name, none of these, and its ins and outs or its ends."""
    if word == "text":
        name, ins, outs = read_head(scanner, names)
        return word, name, tuple(ins), tuple(outs)
    name, ends = read_net_head(scanner, names)
    return word, name, ends


def read_box(scanner, word, first):
    """The statement of a line of a text or a net whose first word has been read."""
    return read_statement(scanner, first) if word == "text" else read_net_box(scanner, first)


def read_statements(scanner, word):
    statements = []
    scanner.skip_empty()
    while scanner.ahead() != "":
        if word == "net" and scanner.ahead() == "0":
            statements.append(read_rule(scanner))
        else:
            statements.append(read_box(scanner, word, scanner.read_word()))
        scanner.skip_empty()
    return statements
