"""A string that is read sign by sign, never further than some right string goes on alike."""

from allstreams.errors import NotAText
from allstreams.ratios import Ratio
from allstreams.words import DIGITS, LETTERS, LONGEST_NAME, NAME_SIGNS, WORDS

LONGEST_NUMBER = 300


class Scanner:
    """The string, and how many of its signs have been read.

    A sign is read only if some right string begins with all that has been read and with it. So where it is
    not, NotAText tells its place, and that is the length of the longest beginning.
    """

    def __init__(self, signs):
        self.signs = signs
        self.place = 0

    def ahead(self):
        """The next sign, the empty string at the end."""
        return self.signs[self.place:self.place + 1]

    def is_ahead(self, signs):
        """Whether the next sign is one of these."""
        sign = self.ahead()
        return sign != "" and sign in signs

    def step(self):
        self.place += 1

    def skip(self):
        """Reads the spaces that stand here."""
        while self.ahead() == " ":
            self.step()

    def skip_line(self):
        """Goes to the end of the line, whatever stands in it."""
        while self.ahead() not in ("", "\n"):
            self.step()

    def skip_empty(self):
        """Goes to the next line that means something, behind the spaces at its beginning."""
        self.skip()
        while self.is_ahead("#\n"):
            if self.ahead() == "#":
                self.skip_line()
            else:
                self.step()
            self.skip()

    def need(self, word):
        for sign in word:
            if self.ahead() != sign:
                raise NotAText(self.place)
            self.step()

    def need_gap(self):
        """Reads at least one space."""
        self.need(" ")
        self.skip()

    def need_line_end(self):
        self.skip()
        if self.ahead() != "":
            self.need("\n")

    def read_word(self):
        """A name, or a word that is none."""
        begun = self.place
        if not self.is_ahead(LETTERS):
            raise NotAText(self.place)
        while self.is_ahead(NAME_SIGNS):
            if self.place - begun == LONGEST_NAME:
                raise NotAText(self.place)
            self.step()
        return self.signs[begun:self.place]

    def read_name(self):
        name = self.read_word()
        if name in WORDS:
            raise NotAText(self.place)
        return name

    def read_within(self, low, high):
        """An integer without a 0 ahead, from low to high."""
        begun = self.place
        texts = [str(number) for number in range(low, high + 1)]
        while self.is_ahead(DIGITS) and any([text.startswith(self.since(begun, 1)) for text in texts]):
            self.step()
        if self.since(begun, 0) not in texts:
            raise NotAText(self.place)
        return int(self.since(begun, 0))

    def since(self, begun, more):
        """What has been read from a place on, and so many signs more."""
        return self.signs[begun:self.place + more]

    def read_number(self):
        """A Ratio without a sign."""
        top = self.read_digits(0)
        if self.ahead() != "/":
            return Ratio(top)
        self.step()
        return Ratio(top, self.read_digits(1))

    def read_digits(self, least):
        """A number of at most 300 digits, from the least one, 0 or 1, on."""
        begun = self.place
        while self.is_ahead(DIGITS):
            many = self.place - begun + 1
            # Where no digit may follow any more, one other than 0 must have come.
            if many > LONGEST_NUMBER or (many == LONGEST_NUMBER and int(self.since(begun, 1)) < least):
                raise NotAText(self.place)
            self.step()
        told = self.since(begun, 0)
        if told == "" or int(told) < least:
            raise NotAText(self.place)
        return int(told)
