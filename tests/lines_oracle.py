"""What lines are a string of texts: told anew by regular expressions, far from the way in which the program reads."""

import re
from functools import lru_cache

WORDS = {"text", "net", "delay", "source", "thin", "stretch", "hold", "deal", "weave"}

TOKEN = re.compile(r"->|[a-z][a-z0-9.]*|[0-9]+(?:/[0-9]+)?|[-+*=,()\[\]]")

N = r"[a-z][a-z0-9.]*"
NS = rf"{N}(?: , {N})*"
NUM = r"[0-9/]+"
TERM = rf"(?:{NUM} \* )?{N}"
ITEMS = rf"(?:- )?{NUM}(?: , (?:- )?{NUM})*"

HEAD = re.compile(rf"text (?P<name>{N}) \( (?P<ins>{NS} )?-> (?P<outs>{NS}) \)")
FORMS = [re.compile(form) for form in (
    rf"{N} = (?:- )?{TERM}(?: [-+] {TERM})*",
    rf"{N} = (?P<word>delay) \[ {ITEMS} \] {N}",
    rf"{N} = (?P<word>source) \[ {ITEMS} \]",
    rf"{N} = (?P<word>thin) (?P<many>[0-9]+) (?P<rest>[0-9]+) {N}",
    rf"{N} = (?P<word>stretch|hold) (?P<many>[0-9]+) {N}",
    rf"(?P<given>{NS}) = (?P<word>deal) {N}",
    rf"{N} = (?P<word>weave) (?P<taken>{N}(?: {N})*)",
    rf"{NS} = {N} \( (?:{NS} )?\)",
)]


def tokens_of(line):
    """The tokens with one space between, None if there are others or if two of them are too near."""
    tokens, place, gap = [], 0, True
    while place < len(line):
        if line[place] == " ":
            place, gap = place + 1, True
            continue
        found = TOKEN.match(line, place)
        if not found:
            return None
        if not gap and found[0][0].isalnum() and tokens[-1][0].isalnum():
            return None
        tokens.append(found[0])
        place, gap = found.end(), False
    return " ".join(tokens)


def is_number(token):
    top, _, bottom = token.partition("/")
    return len(top) <= 300 and ("/" not in token or (len(bottom) <= 300 and int(bottom) > 0))


def plain(digits, low, high):
    return (digits == "0" or digits[0] != "0") and low <= int(digits) <= high


def is_statement(told):
    for form in FORMS:
        found = form.fullmatch(told)
        if not found:
            continue
        parts = found.groupdict()
        many, rest = parts.get("many"), parts.get("rest")
        tokens = told.split()
        if parts.get("word"):
            tokens.remove(parts["word"])
        if not all(token not in WORDS and len(token) <= 40 for token in tokens if token[0].isalpha()):
            continue
        if many and not plain(many, 2, 60) or rest and not plain(rest, 0, int(many) - 1):
            continue
        if not many and not all(is_number(token) for token in tokens if token[0].isdigit()):
            continue
        if parts.get("given") and not 2 <= len(parts["given"].split(" , ")) <= 60:
            continue
        if parts.get("taken") and not 2 <= len(parts["taken"].split()) <= 60:
            continue
        return True
    return False


def heading(told):
    found = HEAD.fullmatch(told)
    if not found:
        return None
    ins, outs = [(found[part] or "").replace(",", " ").split() for part in ("ins", "outs")]
    names = [found["name"], *ins, *outs]
    if any(name in WORDS or len(name) > 40 for name in names):
        return None
    if len(set(ins)) < len(ins) or len(set(outs)) < len(outs):
        return None
    return found["name"]


@lru_cache(maxsize=100000)
def kind_of(line):
    """"" for what means nothing, "=" for a statement, the name for a heading, None for what is wrong."""
    if not line.strip(" ") or line.strip(" ")[0] == "#":
        return ""
    told = tokens_of(line)
    if told is None:
        return None
    if is_statement(told):
        return "="
    return heading(told)


def is_string(text):
    names, ready = [], True
    for line in text.split("\n"):
        kind = kind_of(line)
        if kind is None or (kind == "=" and not names):
            return False
        if kind == "=":
            ready = True
        elif kind:
            if not ready or kind in names:
                return False
            names.append(kind)
            ready = False
    return bool(names) and ready


SAMPLES = [
    "text q9 (q7, q8 -> y, z)\ny = u", "text q9 (-> y)\ny = u", "y = u - 1/2*v", "y = delay [1/2, -3] u",
    "y = source [1, 2]", "y = thin 10 1 u", "y = thin 2 0 u", "y = stretch 10 u", "y = hold 60 u", "y, z = deal u",
    "y = weave u v", "y, z = b(u, v)", "y = b()",
]
TAILS = sorted({ahead + line[place:] + behind for line in SAMPLES for place in range(len(line) + 1)
                for ahead in ("", "x", "1", "\n") for behind in ("", "\ny = u")}, key=len)


def is_beginning(text):
    """Whether some string of texts begins so, as far as these tails tell."""
    return any(is_string(text + tail) for tail in TAILS)
