"""States of a machine from which its outs can be kept at 0 for ever, and by which ins."""

from allstreams.machines import Machine
from allstreams.matrices import blocks, identity, part_of, zeros
from allstreams.quiet import given_rows, made_ahead, state_rows
from allstreams.spaces import at_places, column_space, row_space
from allstreams.steering import steered


class Steady:
    """These states are the sums of multiples of the columns of basis; the rows tell 0 for just these.

    ins tell for each of these columns the ins of a turn that keep the outs at 0, and after what the column becomes,
    in multiples of the basis. The columns of freely are ins that keep the outs at 0 beside these, and added is what
    these add to the states, in multiples of the basis.
    """

    def __init__(self, machine, rows):
        self.rows = steady_rows(machine, rows)
        self.machine = machine
        pivots = self.rows.pivots()
        self.places = [place for place in range(self.rows.width) if place not in pivots]
        low = given_rows(machine, self.rows)
        self.basis = self.rows.kernel()
        self.ins = low.solved(-(state_rows(machine, self.rows) * self.basis))
        self.after = self.multiples(machine.a * self.basis + machine.b * self.ins)
        self.freely = low.kernel()
        self.added = self.multiples(machine.b * self.freely)

    def multiples(self, columns):
        """The multiples of the basis that columns of such states are."""
        return part_of(columns, self.places, list(range(columns.width)))

    def space_reached(self):
        """Columns of which all multiples of the basis that are reached from rest, the outs being 0, are the sums."""
        return column_space(self.added, self.after)

    def way(self, begun, columns):
        """The ins, turn by turn, from these multiples of the basis on; columns tell how often those of freely are used.
        """
        start = [row[0] for row in begun.rows]
        lanes = self.added.width
        telling = Machine(self.after, self.added, self.ins, self.freely, start, [1] * lanes, [1] * self.ins.height)
        return telling.run(columns)

    def way_to_rest(self, begun):
        """The ins, turn by turn, that bring these multiples of the basis to rest; there have to be some."""
        return self.way(begun, steered(self.after, self.added, begun))

    def way_back(self):
        """The same for a first turn at rest in which ins of freely are used, and the turns behind it."""
        first = at_places(self.freely, [0])
        return [[row[0] for row in first.rows], *self.way_to_rest(at_places(self.added, [0]))]


def steady_rows(machine, rows):
    """The rows for states, among those of the rows passed, from which the outs can be kept at 0 within these for ever.
    """
    whole = blocks([[rows], [made_ahead(machine, rows)]]).echelon()
    while whole.height > rows.height:
        rows = whole
        whole = blocks([[rows], [made_ahead(machine, rows)]]).echelon()
    return rows


def lasting_rows(matrix):
    """Rows, in echelon form, that tell the columns of which each power of a square Matrix makes all it makes of any."""
    nothing = zeros(matrix.height, matrix.height)
    rows = identity(matrix.height)
    ahead = row_space(rows * matrix.turned(), nothing)
    while ahead.height < rows.height:
        rows = ahead
        ahead = row_space(rows * matrix.turned(), nothing)
    return rows
