"""Texts made by chance, of boxes alone."""

from allstreams.errors import StreamError
from allstreams.needs import lives
from allstreams.paces import paces
from allstreams.ratios import Ratio
from allstreams.wiring import Text

RATIOS = [Ratio(1), Ratio(-1), Ratio(0), Ratio(2), Ratio(-1, 2), Ratio(7, 3), Ratio(10 ** 299 + 1, 10 ** 299)]


def random_box(chance, fresh, pick):
    """A statement; fresh tells a new name, pick one that there is."""
    kind = chance.choice(["sum", "sum", "delay", "source", "thin", "stretch", "hold", "deal", "weave"])
    many = chance.choice([2, 2, 2, 3, 4])
    if kind == "sum":
        return (kind, fresh(), tuple((chance.choice(RATIOS), pick()) for _ in range(chance.randint(1, 3))))
    if kind == "delay":
        return (kind, fresh(), tuple(chance.choice(RATIOS) for _ in range(chance.randint(1, 3))), pick())
    if kind == "source":
        return (kind, fresh(), tuple(chance.choice(RATIOS) for _ in range(chance.randint(1, 3))))
    if kind == "thin":
        return (kind, fresh(), many, chance.randrange(many), pick())
    if kind in ("stretch", "hold"):
        return (kind, fresh(), many, pick())
    if kind == "deal":
        return (kind, tuple(fresh() for _ in range(many)), pick())
    return (kind, fresh(), tuple(pick() for _ in range(many)))


def random_text(chance, boxes, name="a"):
    """A text without faults, with loops here and there; boxes are the numbers of boxes that it may have."""
    while True:
        names = ["u", "v"][:chance.randint(1, 2)]
        ins, rows = list(names), []

        def fresh():
            names.append(f"w{len(names)}" + chance.choice(["", ".x"]))
            return names[-1]

        def pick():
            # Now and then the name of a wire that a later box will give.
            return chance.choice(names) if chance.random() < 0.9 else f"w{len(names) + chance.randint(0, 3)}"

        for _ in range(chance.choice(boxes)):
            rows.append(random_box(chance, fresh, pick))
        outs = chance.sample(names[len(ins):], chance.randint(1, min(3, len(names) - len(ins))))
        try:
            return Text(name, ins, outs, rows)
        except StreamError:
            continue


SMALL = [Ratio(1), Ratio(-1), Ratio(0), Ratio(2), Ratio(-1, 2), Ratio(7, 3)]


def paced_text(chance, boxes=range(1, 9), most=60):
    """A pair of a text that can be paced, a turn of which is short, and its paces."""
    while True:
        text = random_text(chance, boxes)
        try:
            told = paces(text)
        except StreamError:
            continue
        if sum(told.values()) <= most:
            return small_ratios(text), told


def small_ratios(text):
    """The text with a small ratio in the place of the great one."""
    def told(value):
        if isinstance(value, tuple):
            return tuple(told(part) for part in value)
        return SMALL[-1] if isinstance(value, Ratio) and value not in SMALL else value
    return Text(text.name, text.ins, text.outs, told(text.statements))


def living_text(chance, boxes=range(1, 9), most=60):
    """A pair of a living text and its paces."""
    while True:
        text, told = paced_text(chance, boxes, most)
        if lives(text):
            return text, told
