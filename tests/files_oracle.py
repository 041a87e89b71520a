"""Which strings are files, nets and promises: told by regular expressions, far from how the program reads them."""

import re
from functools import lru_cache

from tests.lines_oracle import N, NS, TERM, WORDS, heading, is_number, is_statement, plain, tokens_of

K = r"(?:0|[1-9][0-9]{0,3})"
NET_HEAD = re.compile(rf"net (?P<name>{N}) \( (?P<ends>{NS}) \)")
PLACED = rf"{TERM}(?: \[ {K} \])?"
RULE = rf"0 = (?:- )?{PLACED}(?: [-+] {PLACED})*"
NET_FORMS = [re.compile(form) for form in (
    rf"{N} = (?:- )?{TERM}(?: [-+] {TERM})*",
    rf"{N} = (?P<delay>delay) (?P<count>[1-9][0-9]{{0,3}}) {N}",
    rf"{N} = (?P<word>thin) (?P<many>[0-9]+) (?P<rest>[0-9]+) {N}",
    rf"{N} = (?P<word>stretch|hold) (?P<many>[0-9]+) {N}",
    rf"(?P<given>{NS}) = (?P<word>deal) {N}",
    rf"{N} = (?P<word>weave) (?P<taken>{N}(?: {N})*)",
    RULE,
)]


def names_are_right(tokens):
    return all(token not in WORDS and len(token) <= 40 for token in tokens if token[0].isalpha())


def is_net_statement(told):
    for form in NET_FORMS:
        found = form.fullmatch(told)
        if not found:
            continue
        parts = found.groupdict()
        tokens = told.split()
        word = parts.get("word") or parts.get("delay")
        if word:
            tokens.remove(word)
        if not names_are_right(tokens):
            continue
        many, rest = parts.get("many"), parts.get("rest")
        if many and not plain(many, 2, 60) or rest and not plain(rest, 0, int(many) - 1):
            continue
        if not many and not all(is_number(token) for token in tokens if token[0].isdigit()):
            continue
        if parts.get("given") and not 2 <= len(parts["given"].split(" , ")) <= 60:
            continue
        if parts.get("taken") and not 2 <= len(parts["taken"].split()) <= 60:
            continue
        return True
    return False


def net_heading(told):
    found = NET_HEAD.fullmatch(told)
    if not found:
        return None
    ends = found["ends"].replace(",", " ").split()
    if not names_are_right([found["name"], *ends]) or len(set(ends)) < len(ends):
        return None
    return found["name"]


@lru_cache(maxsize=100000)
def kinds_of(line):
    """None for what is wrong, otherwise a dict of what the line may be: nothing, a statement, a heading."""
    if not line.strip(" ") or line.strip(" ")[0] == "#":
        return {"": True}
    told = tokens_of(line)
    if told is None:
        return None
    kinds = {"text statement": is_statement(told), "net statement": is_net_statement(told), "text": heading(told),
             "net": net_heading(told)}
    return {kind: value for kind, value in kinds.items() if value} or None


def headings_of(text):
    """The words and names of the entries of a file, None if it is none."""
    heads, ready = [], True
    for line in text.split("\n"):
        kinds = kinds_of(line)
        if kinds is None:
            return None
        if "" in kinds:
            continue
        word = next((word for word in ("text", "net") if word in kinds), None)
        if word:
            if not ready or kinds[word] in [name for _, name in heads]:
                return None
            heads.append((word, kinds[word]))
            ready = False
        elif not heads or f"{heads[-1][0]} statement" not in kinds:
            return None
        else:
            ready = True
    return heads if ready else None


def is_file(text):
    return headings_of(text) is not None


def is_net(text):
    heads = headings_of(text)
    return heads is not None and [word for word, _ in heads] == ["net"]


def are_statements(text, word):
    """Whether these are lines of statements of a text or a net, maybe none."""
    kinds = [kinds_of(line) for line in text.split("\n")]
    return all(kind is not None and ("" in kind or f"{word} statement" in kind) for kind in kinds)


SAMPLES = [
    "text q9 (q7, q8 -> y, z)\ny = u", "text q9 (-> y)\ny = u", "net q9 (q7, q8)\ny = u", "net q9 (q7)\n0 = y[12]",
    "y = u - 1/2*v", "y = delay [1/2, -3] u", "y = delay 1234 u", "y = source [1, 2]", "y = thin 10 1 u",
    "y = thin 2 0 u", "y = stretch 10 u", "y = hold 60 u", "y, z = deal u", "y = weave u v", "y, z = b(u, v)", "y = b()",
    "0 = y[1] - 1/2*y[0] + u[1234] - v",
]
TAILS = sorted({ahead + line[place:] + behind for line in SAMPLES for place in range(len(line) + 1)
                for ahead in ("", "x", "1", "\n") for behind in ("", "\ny = u", "\n0 = u")}, key=len)


def is_beginning(text, is_right):
    """Whether some right string begins so, as far as these tails tell."""
    return any(is_right(text + tail) for tail in TAILS)


PROMISES = [re.compile(form) for form in (
    rf"(?P<a>{N}) lives", rf"(?P<a>{N}) alike (?P<b>{N})", rf"(?P<a>{N}) undoes (?P<b>{N}) late {K}",
    rf"(?P<a>{N}) late {K}", rf"(?P<a>{N}) bounded", rf"(?P<a>{N}) memory {K}", rf"(?P<a>{N}) room {K}",
    rf"(?P<a>{N}) keeps energy", rf"(?P<a>{N}) follows (?P<rule>{RULE})", rf"(?P<a>{N}) driven by(?P<ends> {NS})?",
)]


def is_promise(text):
    told = tokens_of(text) if "\n" not in text else None
    if told is None:
        return False
    for form in PROMISES:
        found = form.fullmatch(told)
        if found:
            parts = found.groupdict()
            tokens = [parts["a"], *[parts.get("b") or "b"], *(parts.get("ends") or "").replace(",", " ").split()]
            rule = (parts.get("rule") or "").split()[2:]
            if names_are_right([*tokens, *rule]) and all(is_number(one) for one in rule if one[0].isdigit()):
                return True
    return False
