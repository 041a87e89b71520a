"""The stairs of machines: what the ins of some turns make of the outs of these turns."""

from allstreams.checks import need_whole
from allstreams.machines import first_answers, need_machine
from allstreams.matrices import blocks, zeros
from allstreams.quiet import answering, given_rows, no_rows, quiet_rows, rows_at
from allstreams.spaces import row_space


def stairs(machine, late):
    need_machine(machine)
    need_whole(late)
    answers = first_answers(machine, late + 1)
    nothing = zeros(machine.d.height, machine.d.width)
    return blocks([
        [answers[row - column] if row >= column else nothing for column in range(late + 1)]
        for row in range(late + 1)
    ])


def gain(machine, late):
    need_machine(machine)
    need_whole(late)
    inner = answering(machine)
    told = quiet_rows(inner, no_rows(inner), late)
    # What the ins of the first turn change, whatever the later ones are.
    return given_rows(inner, rows_at(told, late)).rank()


def is_loopless(machine):
    need_machine(machine)
    # The answers from turn n + 1 on are those of a machine with other out lanes.
    left = row_space(machine.c * machine.a.power(machine.size()), machine.a)
    return left * machine.b == zeros(left.height, machine.b.width)
