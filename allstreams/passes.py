"""Codes changed into codes that do the same: simplified, folded, trimmed, joined, shared, and all of it."""

from allstreams.alikerings import merged_rings, ring_groups
from allstreams.codes import Code, need_code
from allstreams.codeturns import cells_read
from allstreams.ratios import Ratio
from allstreams.worths import is_copy, plain_worths, ratio_of

WRITING = ("take", "put", "sum", "pull")


def with_instructions(code, instructions):
    return Code(code.ins, code.outs, code.cells, code.rings, instructions)


def simplified(code):
    need_code(code)
    return with_instructions(code, [simple_instruction(instruction) for instruction in code.instructions])


def simple_instruction(instruction):
    """A sum with its terms by cells, one for each; any other instruction as it is."""
    word, cell, terms = instruction
    if word != "sum":
        return instruction
    totals = {}
    for ratio, place in terms:
        totals[place] = totals.get(place, Ratio(0)) + ratio
    left = [(totals[place], place) for place in sorted(list(totals)) if totals[place].top]
    return ("sum", cell, tuple(left)) if left else ("put", cell, Ratio(0))


def folded(code):
    need_code(code)
    made = []
    for instruction, worth in zip(code.instructions, plain_worths(code)):
        ratio = ratio_of(worth) if instruction[0] == "sum" and not is_copy(instruction) else None
        made.append(instruction if ratio is None else ("put", instruction[1], ratio))
    return with_instructions(code, made)


def twins_in(code):
    need_code(code)
    return tuple([number + 1 for number, _ in twin_pairs(code)])


def twin_pairs(code):
    """Pairs of numbers, from 0 on, of a twin and of the first instruction that has the same worth."""
    firsts = {}
    pairs = []
    for number, (instruction, worth) in enumerate(zip(code.instructions, plain_worths(code))):
        if worth is None:
            continue
        if worth in firsts and instruction[0] in ("put", "sum") and not is_copy(instruction):
            pairs.append((number, firsts[worth]))
        firsts.setdefault(worth, number)
    return pairs


def shared(code):
    need_code(code)
    firsts = dict(twin_pairs(code))
    # What has the worth first is kept in a cell of its own, as its cell may be written again.
    saved = {}
    for number in sorted(list(firsts)):
        saved.setdefault(firsts[number], code.cells + len(saved))
    made = []
    for number, instruction in enumerate(code.instructions):
        if number in firsts:
            made.append(copy_of(instruction[1], saved[firsts[number]]))
        else:
            made.append(instruction)
        if number in saved:
            made.append(copy_of(saved[number], instruction[1]))
    return Code(code.ins, code.outs, code.cells + len(saved), code.rings, made)


def copy_of(cell, other):
    return ("sum", cell, ((Ratio(1), other),))


def alike_rings(code):
    need_code(code)
    return tuple([tuple(group) for group in ring_groups(code) if len(group) > 1])


def joined_rings(code):
    need_code(code)
    left = code
    groups = ring_groups(left)
    # What was pulled from a ring that is left out may be told by what was pushed: that may make others alike.
    while len(groups) < len(left.rings):
        left = merged_rings(left, groups)
        groups = ring_groups(left)
    return left


def needless(code):
    need_code(code)
    needed = needed_numbers(code)
    return tuple([number + 1 for number in range(len(code.instructions)) if number not in needed])


def needed_numbers(code):
    """A dict with the numbers, from 0 on, of the instructions that are needed."""
    writers = writers_for(code)
    needed = {}
    waiting = [number for number, told in enumerate(code.instructions) if told[0] in ("take", "give")]
    while waiting:
        number = waiting.pop()
        if number not in needed:
            needed[number] = True
            waiting.extend(writers[number])
            if code.instructions[number][0] == "pull":
                waiting.extend(ring_users(code, code.instructions[number][2]))
    return needed


def writers_for(code):
    """For each instruction the numbers of those that have written last what it reads."""
    final = {told[1]: number for number, told in enumerate(code.instructions) if told[0] in WRITING}
    last = {}
    found = []
    for number, told in enumerate(code.instructions):
        # What is not written ahead in the turn has been written last in the turn before, if at all.
        writers = [last.get(cell, final.get(cell)) for cell in cells_read(told)]
        found.append([writer for writer in writers if writer is not None])
        if told[0] in WRITING:
            last[told[1]] = number
    return found


def ring_users(code, ring):
    """The numbers of the instructions that pull from a ring and push into it."""
    return [
        number for number, (word, first, second) in enumerate(code.instructions)
        if word == "pull" and second == ring or word == "push" and first == ring
    ]


def trimmed(code):
    need_code(code)
    needed = needed_numbers(code)
    left = [told for number, told in enumerate(code.instructions) if number in needed]
    cells = {cell: True for told in left for cell in cells_named(told)}
    rings = {ring: True for told in left for ring in rings_named(told)}
    new_cells = {cell: place for place, cell in enumerate(sorted(list(cells)))}
    new_rings = {ring: place for place, ring in enumerate(sorted(list(rings)))}
    made = [renumbered(told, new_cells, new_rings) for told in left]
    kept = [ring for number, ring in enumerate(code.rings) if number in new_rings]
    return Code(code.ins, code.outs, len(new_cells), kept, made)


def cells_named(instruction):
    written = [instruction[1]] if instruction[0] in WRITING else []
    return written + cells_read(instruction)


def rings_named(instruction):
    if instruction[0] == "pull":
        return [instruction[2]]
    return [instruction[1]] if instruction[0] == "push" else []


def renumbered(instruction, cells, rings):
    """The instruction with other numbers of cells and rings."""
    word, first, second = instruction
    if word == "sum":
        return (word, cells[first], tuple([(ratio, cells[cell]) for ratio, cell in second]))
    if word == "pull":
        return (word, cells[first], rings[second])
    if word == "push":
        return (word, rings[first], cells[second])
    return (word, first, cells[second]) if word == "give" else (word, cells[first], second)


def optimized(code):
    best = trimmed(folded(simplified(code)))
    # Each round has fewer rings, or fewer sums and puts that are no copies.
    while alike_rings(best) or twins_in(best):
        best = trimmed(folded(simplified(shared(joined_rings(best)))))
    return best
