"""Runs: texts gone through step by step, in any order."""

from allstreams.boxsteps import Boxes, begun_of
from allstreams.checks import need_string, need_within
from allstreams.errors import CannotStep, Unknown
from allstreams.paces import short_paces
from allstreams.ratios import ratio_list
from allstreams.statements import given_of
from allstreams.wiring import need_text


class Run:
    """A run of a text: what has come on each wire, and how many steps each box has made."""

    def __init__(self, text):
        need_text(text)
        short_paces(text)
        self.ins = text.ins
        self.boxes = Boxes(text)
        self.standing = [0 for _ in text.statements]
        self.streams = {wire: [] for wire in text.ins}
        for statement in text.statements:
            for wire in given_of(statement):
                self.streams[wire] = begun_of(statement)

    def give(self, name, items):
        need_string(name)
        told = ratio_list(items)
        if name not in self.ins:
            raise Unknown(name)
        self.streams[name] = self.streams[name] + told

    def can_step(self, box):
        need_within(box, 1, len(self.standing))
        return all([place < len(self.streams[wire]) for wire, place in self.boxes.takes(box - 1, self.standing)])

    def step(self, box):
        if not self.can_step(box):
            raise CannotStep(box)
        made = self.boxes.made_by(box - 1, self.standing, self.streams)
        if made is not None:
            wire, item = made
            self.streams[wire].append(item)
        self.standing[box - 1] = self.standing[box - 1] + 1

    def steps(self, box):
        need_within(box, 1, len(self.standing))
        return self.standing[box - 1]

    def come(self, name):
        need_string(name)
        if name not in self.streams:
            raise Unknown(name)
        return list(self.streams[name])

    def waiting(self):
        return {wire: self.boxes.waits(wire, len(self.streams[wire]), self.standing) for wire in self.streams}
