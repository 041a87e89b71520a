"""States of a desk: entries and promises, and what comes of edits."""

from allstreams.answers import Shelf, answer_to
from allstreams.entries import told_nets, told_texts
from allstreams.errors import Broken
from allstreams.promises import named_in, promise_with, told_promise


class State:
    """Entries, promises, and the Shelf of the entries, None where faults have not been looked for."""

    def __init__(self, entries, promises, shelf=None):
        self.entries = tuple(entries)
        self.kept = tuple(promises)
        self.shelf = shelf

    def entry_called(self, name):
        """The entry of this name, None if there is none."""
        for entry in self.entries:
            if entry[1] == name:
                return entry
        return None


def shelf_of_state(state):
    """The Shelf of a state; the first fault is raised."""
    if state.shelf is not None:
        return state.shelf
    return Shelf(told_texts(state.entries), told_nets(state.entries))


def begun_state(entries):
    """The state of entries without promises; the first fault is raised."""
    return State(entries, [], shelf_of_state(State(entries, [])))


def settled(state, before):
    """The state with its Shelf: the first fault is raised, then Broken for the first promise that does not hold.

    What is told as it was in the settled state before needs not be looked at again.
    """
    shelf = shelf_of_state(state)
    for promise in state.kept:
        if not is_as_before(promise, state, shelf, before) and not answer_to(shelf, promise, False)[0]:
            raise Broken(told_promise(promise), answer_to(shelf, promise, True)[1])
    return State(state.entries, state.kept, shelf)


def is_as_before(promise, state, shelf, before):
    """Whether a promise was kept before, of texts and nets that have not changed."""
    if promise not in before.kept:
        return False
    return all([is_same(name, state, shelf, before) for name in named_in(promise)])


def is_same(name, state, shelf, before):
    """Whether a text, its calls unfolded, or a net is told as it was before."""
    if name in shelf.texts:
        return name in before.shelf.texts and shelf.texts[name] == before.shelf.texts[name]
    return state.entry_called(name) == before.entry_called(name)


def put_into(entries, news):
    """Each new entry in the place of that of the same name, or behind the last one."""
    told = {entry[1]: entry for entry in entries}
    for entry in news:
        told[entry[1]] = entry
    return list(told.values())


def with_statements(entry, statements):
    return (*entry[:-1], tuple(statements))


def entry_anew(entry, name, new):
    """The entry with another name for one of the names of the file."""
    told = [call_anew(statement, name, new) for statement in entry[-1]]
    if entry[1] == name:
        entry = (entry[0], new, *entry[2:])
    return with_statements(entry, told)


def call_anew(statement, name, new):
    if statement[0] != "call" or statement[2] != name:
        return statement
    return (statement[0], statement[1], new, statement[3])


def promises_anew(promises, name, new):
    """The promises with another name; of those that become equal the first one stays."""
    left = []
    for promise in promises:
        told = promise_with(promise, name, new)
        if told not in left:
            left.append(told)
    return left
