"""[2], [69] to [122]: the names of the interface, where they are defined, and what their arguments are called."""

import importlib
import inspect
import unittest

FUNCTIONS = {
    "polys": ["common_paper(one, other)", "poly_text(poly, letter)"],
    "quotients": ["first_unlike(one, other)", "quotient_text(quotient)"],
    "discs": ["root_counts(poly)", "beyond_disc(poly)"],
    "matrices": ["identity(size)", "zeros(height, width)", "part_of(matrix, rows, columns)", "blocks(grid)"],
    "polymatrices": ["poly_matrix(parts)", "poly_blocks(grid)"],
    "hermite": ["hermite(matrix)", "hermite_pivots(form)", "rest_of(row, form)"],
    "lowest": ["lowest_diagonal(matrix)", "diagonal_paper(matrix)"],
    "relations": ["left_relations(matrix)", "multipliers_of(row, matrix)", "has_rows(matrix, other)"],
    "lanes": [
        "dealt(items, many)", "woven(lists)", "thinned(items, many, rest)", "stretched(items, many)",
        "held(items, many)",
    ],
    "ruled": ["woven_of(streams)", "ruled_of(quotient)", "first_apart(one, other)"],
    "words": ["is_name(value)"],
    "reader": ["read_texts(text)"],
    "printer": ["text_text(text)"],
    "paces": ["paces(text)", "items_of_turn(text)", "steps_of_turn(text)"],
    "needs": ["lives(text)", "standing_ring(text)", "needs_of(text, name, place)"],
    "plans": ["first_plan(text)", "is_plan(text, boxes)", "fillings(text, plan)"],
    "rooms": ["least_room(text)", "room_paper(text)"],
    "turns": ["run_turns(text, ins, turns)"],
    "naming": ["machine_of(text)"],
    "shaped": ["text_of(machine, name, ins, outs)"],
    "likeness": ["alike(one, other)", "first_parting(one, other)", "likeness_paper(one, other)"],
    "joining": ["renamed(text, names)", "behind(first, second, ties)", "fed_back(text, name, wire)"],
    "stairs": ["stairs(machine, late)", "gain(machine, late)", "is_loopless(machine)"],
    "undoing": ["least_late(machine)", "undo(machine, late)", "lost(machine)", "twins(machine, late)"],
    "loopless": ["loopless_late(machine)", "loopless_undo(machine, late)", "loopless_breaker(machine)"],
    "banks": [
        "split_bank(filters, many)", "join_bank(filters, many)", "given_back(splits, joins, many)",
        "second_half(filters, many, late)",
    ],
    "energy": ["keeps_energy(machine)", "energy_breaker(machine)"],
    "laddered": ["ladder_of(machine)"],
    "least": [
        "memory(machine)", "memory_paper(machine)", "least_machine(machine)", "change_between(one, other)",
    ],
    "sightless": ["unseen(machine)", "unreached(machine)"],
    "growth": [
        "pole_poly(machine)", "is_bounded(machine)", "bounded_paper(machine)", "greatest_at(machine, lane, turn)",
        "greatest_of(text, out, place)", "limits(machine)",
    ],
    "nets": ["hide(net, names)", "renamed_net(net, names)"],
    "equations": [
        "net_of_statements(ends, statements)", "rule_rows(net, terms)", "read_net(text)", "net_of(text)",
    ],
    "forms": ["normal_form(net)", "net_of_form(form)", "like_ends(one, other)", "alike_nets(one, other)"],
    "following": ["follows(net, row)", "breaker(net, row)", "lifted(net, streams)"],
    "driving": ["can_drive(net, wires)", "free_beginnings(net, wires)", "machine_of_net(net, wires)"],
    "joins": ["joined(one, other)"],
    "codes": ["code_text(code)"],
    "making": ["code_of(text, plan)"],
    "passes": [
        "simplified(code)", "folded(code)", "trimmed(code)", "joined_rings(code)", "shared(code)", "optimized(code)",
        "twins_in(code)", "needless(code)", "alike_rings(code)",
    ],
    "coderuns": ["run_code(code, ins, turns)", "held_after(code, ins, turns)"],
    "codeturns": ["machine_of_code(code)", "same_codes(one, other)", "code_parting(one, other)"],
    "costs": ["cost(code)"],
    "files": ["read_file(text)", "file_text(entries)", "texts_of(entries)", "nets_of(entries)"],
    "questions": ["holds(entries, promise)", "asked(entries, promise)"],
    "promises": ["read_promise(text)", "promise_text(promise)"],
}

SIGNS = ["__eq__(self, other)", "__add__(self, other)", "__sub__(self, other)", "__mul__(self, other)"]
BOTH_SIDES = [*SIGNS, "__radd__(self, other)", "__rsub__(self, other)", "__rmul__(self, other)", "__neg__(self)"]

CLASSES = {
    "ratios.Ratio": [
        *BOTH_SIDES, "__init__(self, top, bottom=1)", "inverse(self)", "power(self, exponent)", "sign(self)",
        "size(self)", "floor(self)", "compare(self, other)", "__str__(self)",
    ],
    "polys.Poly": [
        *BOTH_SIDES, "__init__(self, parts)", "power(self, exponent)", "degree(self)", "low(self)",
        "part(self, number)", "worth_at(self, ratio)", "raised(self, many)", "monic(self)", "turned(self)",
        "slope(self)", "divided(self, other)", "common(self, other)",
    ],
    "quotients.Quotient": [
        *BOTH_SIDES, "__init__(self, top, bottom)", "power(self, exponent)", "inverse(self)", "part(self, number)",
        "first(self, many)", "low(self)",
    ],
    "matrices.Matrix": [
        *SIGNS, "__init__(self, rows, width=None)", "__rmul__(self, other)", "__neg__(self)", "__str__(self)",
        "turned(self)", "rank(self)", "pivots(self)", "echelon(self)", "kernel(self)", "solved(self, other)",
        "power(self, exponent)", "determinant(self)", "inverse(self)",
    ],
    "polymatrices.PolyMatrix": [
        *SIGNS, "__init__(self, rows, width=None)", "times(self, poly)", "turned(self)", "degree(self)",
        "part(self, power)", "worth_at(self, ratio)", "rank(self)", "determinant(self)", "adjugate(self)",
        "inverse(self)",
    ],
    "quotientmatrices.QuotientMatrix": [
        *SIGNS, "__init__(self, rows, width=None)", "times(self, quotient)", "turned(self)", "rank(self)",
        "first(self, many)", "common_bottom(self)", "tops(self)", "determinant(self)", "inverse(self)",
    ],
    "ruled.Ruled": [
        *SIGNS, "__init__(self, begun, rule)", "__rmul__(self, other)", "__neg__(self)", "item(self, place)",
        "beginning(self, many)", "later(self, many)", "behind(self, items)", "divided(self, poly)",
        "thinned(self, many, rest)", "stretched(self, many)", "held(self, many)", "quotient(self)",
    ],
    "wiring.Text": [
        "__init__(self, name, ins, outs, statements, others=())", "__eq__(self, other)", "wires(self)", "taken(self)",
    ],
    "running.Run": [
        "__init__(self, text)", "give(self, name, items)", "can_step(self, box)", "step(self, box)", "steps(self, box)",
        "come(self, name)", "waiting(self)",
    ],
    "machines.Machine": [
        "__init__(self, a, b, c, d, start, ins, outs)", "__eq__(self, other)", "size(self)", "answer(self, turn)",
        "run(self, columns)", "at_rest(self)", "over(self, turns)",
    ],
    "ladders.Ladder": [
        "__init__(self, rungs)", "__eq__(self, other)", "run(self, first, second)", "run_rounded(self, first, second)",
        "lateness(self)", "undone(self)", "as_machine(self)",
    ],
    "nets.Net": ["__init__(self, ends, hidden, paces, rows)", "columns(self)", "over(self, turns)"],
    "forms.Form": ["__eq__(self, other)"],
    "codes.Code": ["__init__(self, ins, outs, cells, rings, instructions)", "__eq__(self, other)"],
    "desk.Desk": [
        "__init__(self, text='')", "lines(self)", "names(self)", "text(self, name)", "net(self, name)",
        "promises(self)", "ask(self, promise)", "put(self, text)", "drop(self, name)",
        "change(self, name, number, text)", "rename(self, name, new)", "keep(self, text)", "release(self, text)",
        "attempt(self, action)", "undo(self)", "redo(self)",
    ],
}


def told(name, function):
    return f"{name}{inspect.signature(function)}"


class Interface(unittest.TestCase):
    def test_functions(self):
        for module, functions in FUNCTIONS.items():
            file = importlib.import_module(f"allstreams.{module}")
            for function in functions:
                name = function.split("(")[0]
                self.assertEqual(told(name, getattr(file, name)), function)
                self.assertEqual(getattr(file, name).__module__, file.__name__)

    def test_classes(self):
        for path, methods in CLASSES.items():
            module, name = path.split(".")
            made = getattr(importlib.import_module(f"allstreams.{module}"), name)
            self.assertEqual(made.__module__, f"allstreams.{module}")
            for method in methods:
                # In the class itself, not in a base class.
                self.assertEqual(told(method.split("(")[0], vars(made)[method.split("(")[0]]), method)


if __name__ == "__main__":
    unittest.main()
