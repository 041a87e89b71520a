"""[1]: one text told in all the ways of the document gives the same."""

import random
import unittest

from allstreams.coderuns import run_code
from allstreams.codeturns import machine_of_code, same_codes
from allstreams.desk import Desk
from allstreams.equations import net_of
from allstreams.errors import StreamError
from allstreams.files import file_text, read_file, texts_of
from allstreams.forms import alike_nets
from allstreams.least import least_machine
from allstreams.likeness import alike
from allstreams.making import code_of
from allstreams.naming import machine_of
from allstreams.paces import paces, steps_of_turn
from allstreams.passes import optimized
from allstreams.plans import first_plan
from allstreams.printer import text_text
from allstreams.ratios import Ratio
from allstreams.reader import read_texts
from allstreams.running import Run
from allstreams.shaped import text_of
from allstreams.turns import run_turns
from allstreams.wiring import Text
from tests.helpers import Case, fraction
from tests.random_texts import living_text
from tests.streams_oracle import Oracle
from tests.test_making import random_plan

TURNS = 4


def by_machine(machine, names, ins, outs, told):
    """The outs that a machine tells, given streams."""
    columns = [[item for name in names for item in ins[name][turn * told[name]:(turn + 1) * told[name]]]
               for turn in range(TURNS)]
    rows = machine.run(columns)
    streams, first = {}, 0
    for name in outs:
        streams[name] = [item for row in rows for item in row[first:first + told[name]]]
        first += told[name]
    return streams


def by_steps(chance, text, ins):
    """The outs of a run whose steps are made in any order, as long as it goes on."""
    told, many = paces(text), steps_of_turn(text)
    run = Run(text)
    for name, items in ins.items():
        run.give(name, items)
    left = [steps * TURNS for steps in many]
    while any(left):
        box = chance.choice([box for box, steps in enumerate(left) if steps and run.can_step(box + 1)])
        run.step(box + 1)
        left[box] -= 1
    return {name: run.come(name)[:TURNS * told[name]] for name in text.outs}


class AllWays(Case):
    def check(self, chance, text):
        told = paces(text)
        ins = {name: [Ratio(chance.randint(-5, 5)) for _ in range(TURNS * told[name])] for name in text.ins}
        outs = run_turns(text, ins, TURNS)
        oracle = Oracle(text, ins)
        for name in text.outs:
            self.assertEqual([fraction(item) for item in outs[name]], list(oracle.first(name, TURNS * told[name])))
        self.assertEqual(by_steps(chance, text, ins), outs)
        machine = machine_of(text)
        for one in (machine, least_machine(machine)):
            self.assertEqual(by_machine(one, text.ins, ins, text.outs, told), outs)
        code = code_of(text, random_plan(chance, text))
        best = optimized(code_of(text, first_plan(text)))
        for one in (code, best):
            self.assertEqual(run_code(one, ins, TURNS), outs)
            self.assertEqual(by_machine(machine_of_code(one), text.ins, ins, text.outs, told), outs)
        self.assertTrue(same_codes(code, best))
        self.check_texts(text, machine, ins, outs)

    def check_texts(self, text, machine, ins, outs):
        """Told again by its lines, made of its machine, called by another text, named anew in a file."""
        again = read_texts(text_text(text))[0]
        self.assertEqual(again, text)
        caller = Text("caller", text.ins, text.outs, [("call", text.outs, text.name, text.ins)], [text])
        self.assertTrue(alike(caller, text))
        self.assertEqual(run_turns(caller, ins, TURNS), outs)
        entries = [("text", text.name, text.ins, text.outs, text.statements),
                   ("text", "caller", text.ins, text.outs, (("call", text.outs, text.name, text.ins),))]
        self.assertEqual(texts_of(read_file(file_text(entries)))["caller"], caller)
        desk = Desk(file_text(entries))
        desk.keep(f"caller alike {text.name}")
        desk.rename(text.name, "named")
        self.assertEqual([run_turns(desk.text("named"), ins, TURNS), desk.ask("named alike caller")[0]], [outs, True])
        for one in (machine, least_machine(machine)):
            try:
                made = text_of(one, "made", text.ins, text.outs)
            except StreamError:
                continue
            turned = {name: many // made_turns(made, text) for name, many in paces(text).items() if name in made.ins + made.outs}
            self.assertEqual({name: paces(made)[name] for name in turned}, turned)
            self.assertTrue(alike(made, text))
        if not any(row[0] == "source" for row in text.statements) and sum(paces(text).values()) <= 24:
            self.assertTrue(alike_nets(net_of(text), net_of(caller)))

    def test_by_chance(self):
        chance = random.Random(471)
        for _ in range(60):
            text, _ = living_text(chance, range(1, 7), 40)
            self.check(chance, text)


def made_turns(made, text):
    """How many turns of what is made one turn of the text has."""
    name = text.outs[0]
    return paces(text)[name] // paces(made)[name]


if __name__ == "__main__":
    unittest.main()
