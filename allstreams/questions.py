"""Whether promises hold for the texts and nets of a file."""

from allstreams.answers import Shelf, answer_to
from allstreams.entries import told_nets, told_texts
from allstreams.files import need_entries
from allstreams.promises import need_promise
from allstreams.statements import as_tuples


def holds(entries, promise):
    return answer_to(shelf_of(entries, promise), as_tuples(promise), False)[0]


def asked(entries, promise):
    return answer_to(shelf_of(entries, promise), as_tuples(promise), True)


def shelf_of(entries, promise):
    need_entries(entries)
    need_promise(promise)
    return Shelf(told_texts(entries), told_nets(entries))
