"""Desks: a file, and promises that are kept while it is changed."""

from allstreams.answers import answer_to
from allstreams.checks import need_integer, need_string
from allstreams.entrylines import told_entries, told_statements
from allstreams.entrytext import entries_text
from allstreams.errors import BadValue, NotMade, NothingToRedo, NothingToUndo, Taken, Unknown
from allstreams.promises import read_promise, told_promise
from allstreams.reader import need_signs
from allstreams.states import State, begun_state, entry_anew, promises_anew, put_into, settled, shelf_of_state
from allstreams.states import with_statements
from allstreams.words import is_name

# What Python calls the kinds of functions.
FUNCTIONS = (
    "function", "method", "builtin_function_or_method", "method_descriptor", "wrapper_descriptor", "method-wrapper",
    "partial",
)


class Desk:
    """What it is now, what it was ahead of deeds that can be undone, and behind deeds that can be done again.

    depth tells within how many attempts it is: in them faults and promises are not looked at.
    """

    def __init__(self, text=""):
        self.now = begun_state(told_entries(text))
        self.past = ()
        self.future = ()
        self.depth = 0

    def lines(self):
        return entries_text(self.now.entries)

    def names(self):
        return tuple([entry[1] for entry in self.now.entries])

    def text(self, name):
        self.need_entry(name, "text")
        return shelf_of_state(self.now).texts[name]

    def net(self, name):
        self.need_entry(name, "net")
        return shelf_of_state(self.now).nets[name]

    def promises(self):
        return [told_promise(promise) for promise in self.now.kept]

    def ask(self, promise):
        told = read_promise(promise)
        return answer_to(shelf_of_state(self.now), told, True)

    def put(self, text):
        self.deed(put_into(self.now.entries, told_entries(text)), self.now.kept)

    def drop(self, name):
        need_string(name)
        self.entry_of(name)
        self.deed([entry for entry in self.now.entries if entry[1] != name], self.now.kept)

    def change(self, name, number, text):
        need_string(name)
        need_integer(number)
        need_signs(text)
        entry = self.entry_of(name)
        told = entry[-1]
        if not 1 <= number <= len(told) + 1:
            raise BadValue(number)
        news = told_statements(text, entry[0])
        changed = with_statements(entry, [*told[:number - 1], *news, *told[number:]])
        self.deed(put_into(self.now.entries, [changed]), self.now.kept)

    def rename(self, name, new):
        need_string(name)
        if not is_name(new):
            raise BadValue(new)
        self.entry_of(name)
        if self.now.entry_called(new) is not None:
            raise Taken(new)
        entries = [entry_anew(entry, name, new) for entry in self.now.entries]
        self.deed(entries, promises_anew(self.now.kept, name, new))

    def keep(self, text):
        promise = read_promise(text)
        promises = list(self.now.kept)
        self.deed(self.now.entries, promises if promise in promises else [*promises, promise])

    def release(self, text):
        promise = read_promise(text)
        if promise not in self.now.kept:
            raise NotMade(told_promise(promise))
        self.deed(self.now.entries, [other for other in self.now.kept if other != promise])

    def attempt(self, action):
        need_function(action)
        now, past, future, depth = self.now, self.past, self.future, self.depth
        self.past = ()
        self.future = ()
        self.depth = depth + 1
        done = None
        try:
            told = action(self)
            if depth == 0:
                self.now = settled(self.now, now)
            done = self.now
        finally:
            self.past, self.future, self.depth = past, future, depth
            if done is None:
                self.now = now
        self.past = past + (now,)
        self.future = ()
        return told

    def undo(self):
        if len(self.past) == 0:
            raise NothingToUndo()
        self.future = self.future + (self.now,)
        self.now = self.past[-1]
        self.past = self.past[:-1]

    def redo(self):
        if len(self.future) == 0:
            raise NothingToRedo()
        self.past = self.past + (self.now,)
        self.now = self.future[-1]
        self.future = self.future[:-1]

    def need_entry(self, name, word):
        """An entry of this name and this sort."""
        need_string(name)
        if self.entry_of(name)[0] != word:
            raise Unknown(name)

    def entry_of(self, name):
        entry = self.now.entry_called(name)
        if entry is None:
            raise Unknown(name)
        return entry

    def deed(self, entries, promises):
        """Goes on to these entries and promises."""
        state = State(entries, promises)
        if self.depth == 0:
            state = settled(state, self.now)
        self.past = self.past + (self.now,)
        self.now = state
        self.future = ()


def need_function(value):
    if value.__class__.__name__ not in FUNCTIONS:
        raise BadValue(value)
