"""Calls: which texts may be called how, and the statements that come in the place of a call."""

from allstreams.errors import BadValue, TooMany, Unknown, Within
from allstreams.statements import as_tuples, called_anew, given_of, taken_of
from allstreams.words import LONGEST_NAME

MOST_BOXES = 60


class Draft:
    """A text with its calls as they are; told are its statements as they were passed."""

    def __init__(self, name, ins, outs, told):
        self.name = name
        self.ins = tuple(ins)
        self.outs = tuple(outs)
        self.told = list(told)
        self.rows = [as_tuples(statement) for statement in told]

    def called(self):
        """The names of the texts that its calls name, in order."""
        return [row[2] for row in self.rows if row[0] == "call"]

    def calls(self):
        """Pairs of each call and the call as it was passed."""
        return [(row, told) for row, told in zip(self.rows, self.told) if row[0] == "call"]


class Calls:
    """Drafts that call each other by their names, and what has been found about them so far."""

    def __init__(self, drafts):
        self.drafts = {draft.name: draft for draft in drafts}
        self.walked = {}
        self.sizes = {}

    def unfolded(self, draft):
        """The statements of a draft without calls."""
        self.need_calls(draft)
        if self.size_of(draft) > MOST_BOXES:
            raise TooMany(MOST_BOXES)
        done = []
        waiting = draft.rows[::-1]
        while waiting:
            row = waiting.pop()
            if row[0] == "call":
                waiting.extend(self.inside(row)[::-1])
            else:
                done.append(row)
        for row in done:
            need_short_names(row)
        return done

    def need_calls(self, draft):
        """Looks at the calls of a draft; behind each one, at those of the text called.

        A text that has been walked through has no fault, so it is not walked again.
        """
        waiting = draft.calls()[::-1]
        while waiting:
            row, told = waiting.pop()
            self.need_call(row, told)
            if row[2] not in self.walked:
                self.walked[row[2]] = True
                waiting.extend(self.drafts[row[2]].calls()[::-1])

    def need_call(self, row, told):
        name = row[2]
        if name not in self.drafts:
            raise Unknown(name)
        if name not in self.walked and self.is_round(name):
            raise Within(name)
        draft = self.drafts[name]
        if len(row[1]) != len(draft.outs) or len(row[3]) != len(draft.ins):
            raise BadValue(told)
        if any([out in draft.ins for out in draft.outs]):
            raise BadValue(told)

    def is_round(self, name):
        """Whether the text calls itself, by any number of calls."""
        seen = {}
        waiting = self.drafts[name].called()
        while waiting:
            other = waiting.pop()
            if other == name:
                return True
            if other in self.drafts and other not in seen:
                seen[other] = True
                waiting.extend(self.drafts[other].called())
        return False

    def size_of(self, draft):
        """How many statements a draft has without calls, counted text by text."""
        waiting = [draft]
        while waiting:
            last = waiting[-1]
            missing = [name for name in last.called() if name not in self.sizes]
            if missing:
                waiting.extend([self.drafts[name] for name in missing])
            else:
                boxes = len(last.rows) - len(last.called())
                self.sizes[last.name] = boxes + sum([self.sizes[name] for name in last.called()])
                waiting.pop()
        return self.sizes[draft.name]

    def inside(self, row):
        """The statements that come in the place of a call."""
        _, given, name, taken = row
        draft = self.drafts[name]
        names = dict(zip(draft.ins, taken))
        for out, wire in zip(draft.outs, given):
            names[out] = wire
        return [called_anew(statement, names, given[0] + ".") for statement in draft.rows]


def need_short_names(row):
    for name in given_of(row) + taken_of(row):
        if len(name) > LONGEST_NAME:
            raise TooMany(LONGEST_NAME)
