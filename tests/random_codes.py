"""Codes made by chance."""

from allstreams.codes import Code
from allstreams.ratios import Ratio

FEW = [Ratio(1), Ratio(1), Ratio(-1), Ratio(2), Ratio(0), Ratio(1, 2)]


def random_code(chance, length=10, cells=4, rings=3):
    """A code with at most so many free instructions; many of its rings and sums look alike."""
    cells = chance.randint(1, cells)
    ins = [(name, chance.randint(1, 2)) for name in ["u", "v"][:chance.randint(0, 2)]]
    outs = [(name, chance.randint(1, 2)) for name in ["y", "z"][:chance.randint(1, 2)]]
    begun = [[chance.choice([0, 0, 1]) for _ in range(chance.randint(0, 2))] for _ in range(chance.randint(0, rings))]
    held = [len(ring) for ring in begun]
    cell = lambda: chance.randrange(cells)
    needs = [("take", name) for name, many in ins for _ in range(many)]
    needs += [("give", name) for name, many in outs for _ in range(many)]
    for ring in range(len(begun)):
        for _ in range(chance.randint(0, 2)):
            needs += [("pull", ring), ("push", ring)]
    needs += [chance.choice([("sum", None), ("sum", None), ("put", None)]) for _ in range(chance.randint(0, length))]
    chance.shuffle(needs)
    told = []
    while needs:
        word, name = needs.pop(0)
        if word == "pull" and held[name] == 0:
            # Its push comes later.
            needs.append((word, name))
            continue
        if word == "take":
            told.append((word, cell(), name))
        elif word == "give":
            told.append((word, name, cell()))
        elif word == "pull":
            held[name] -= 1
            told.append((word, cell(), name))
        elif word == "push":
            held[name] += 1
            told.append((word, name, cell()))
        elif word == "put":
            told.append((word, cell(), chance.choice(FEW)))
        else:
            told.append((word, cell(), tuple((chance.choice(FEW), cell()) for _ in range(chance.randint(0, 3)))))
    return Code(ins, outs, cells, begun, told)


def crowded_code(chance, rings, cells=2, sums=2):
    """A code with several rings that begin alike, and with few cells: its rings are often alike, one after the other."""
    cells = chance.randint(1, cells)
    many = chance.randint(1, 3)
    begun = [[0] * chance.choice([0, 0, 0, 1])] * chance.randint(2, rings)
    needs = [("take", None), ("take", None), ("give", None), ("give", None)]
    needs += [(word, ring) for ring in range(len(begun)) for word in ("pull", "push")] * many
    needs += [("sum", None)] * chance.randint(0, sums)
    chance.shuffle(needs)
    held = [len(ring) for ring in begun]
    told = []
    while needs:
        word, ring = needs.pop(0)
        cell = chance.randrange(cells)
        if word == "pull" and held[ring] == 0:
            # Its push comes later.
            needs.append((word, ring))
        elif word == "pull":
            held[ring] -= 1
            told.append((word, cell, ring))
        elif word == "push":
            held[ring] += 1
            told.append((word, ring, cell))
        elif word == "take":
            told.append((word, cell, "u"))
        elif word == "give":
            told.append((word, "y", cell))
        else:
            told.append((word, cell, tuple((chance.choice(FEW), chance.randrange(cells)) for _ in range(chance.randint(1, 2)))))
    return Code([("u", 2)], [("y", 2)], cells, begun, told)
