"""Files: texts and nets, one behind another."""

from allstreams.checks import need_list
from allstreams.entries import is_entry, told_nets, told_texts
from allstreams.entrylines import told_entries
from allstreams.entrytext import entries_text
from allstreams.errors import BadValue


def read_file(text):
    return told_entries(text)


def file_text(entries):
    need_entries(entries)
    return entries_text(entries)


def texts_of(entries):
    need_entries(entries)
    texts = told_texts(entries)
    # A fault of a net is a fault of the file.
    told_nets(entries)
    return texts


def nets_of(entries):
    need_entries(entries)
    told_texts(entries)
    return told_nets(entries)


def need_entries(entries):
    """A list of entries with unlike names."""
    for entry in need_list(entries):
        if not is_entry(entry):
            raise BadValue(entry)
    if len({entry[1]: True for entry in entries}) < len(entries):
        raise BadValue(entries)
