"""States of machines that are not seen, and sums of states that are not reached."""

from allstreams.machines import need_machine
from allstreams.shortest import given_columns
from allstreams.spaces import row_space


def unseen(machine):
    need_machine(machine)
    return row_space(machine.c, machine.a).kernel()


def unreached(machine):
    need_machine(machine)
    return row_space(given_columns(machine).turned(), machine.a.turned()).kernel().turned()
