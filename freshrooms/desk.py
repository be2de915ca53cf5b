"""The desk: plain machines kept by names, asked for and made by texts [26, 27]."""

from freshrooms.compares import compared
from freshrooms.errors import NoName, NoRow
from freshrooms.forming import machine_of, plain_of
from freshrooms.joins import WORDS, joined, turned
from freshrooms.least import least_of
from freshrooms.machtexts import read_machine, show_machine
from freshrooms.plains import plain_lets
from freshrooms.rows import is_sign
from freshrooms.rowtexts import FIGURES, read_row, show_row
from freshrooms.tables import shapes_of

# How many words each text has; the last one of keep and of let is all that is left, with its blanks.
SIZES = {"keep": 3, "drop": 2, "show": 2, "let": 3, "same": 3, "least": 3, "turn": 3, "join": 5, "shapes": 3}


class Desk:
    def __init__(self):
        self.plains = {}

    def say(self, text):
        words = words_of(text)
        if words[0] in ("show", "let", "same", "shapes"):
            return self.told(words)
        if words[0] == "drop":
            self.drop(words[1])
        else:
            self.make(words)
        return "ok"

    def told(self, words):
        plain = self.plain_by_name(words[1])
        if words[0] == "show":
            return show_machine(machine_of(plain))
        if words[0] == "let":
            return "yes" if plain_lets(plain, read_row(words[2])) else "no"
        if words[0] == "same":
            return same_told(compared(plain, self.plain_by_name(words[2])))
        return shapes_told(shapes_of(plain, int(words[2])))

    def drop(self, name):
        self.plain_by_name(name)
        self.plains.pop(name)

    def make(self, words):
        new = words[2] if words[0] == "join" else words[1]
        if not is_sign(new):
            raise NoName("a machine is kept by a word")
        # What is refused is refused ahead of this, so nothing stands by the name that didn't.
        self.plains[new] = self.made(words)

    def made(self, words):
        if words[0] == "keep":
            return plain_of(read_machine(words[2]))[0]
        if words[0] == "join":
            return joined(words[1], self.plain_by_name(words[3]), self.plain_by_name(words[4]))[0]
        plain = self.plain_by_name(words[2])
        return least_of(plain) if words[0] == "least" else turned(plain)

    def plain_by_name(self, name):
        if name not in self.plains:
            raise NoName("no machine stands by this name")
        return self.plains[name]


def words_of(text):
    words = text.split(" ")
    if words[0] in ("keep", "let"):
        words = text.split(" ", 2)
    if SIZES.get(words[0]) != len(words):
        raise NoRow("the text is none that a desk is told")
    if words[0] == "join" and words[1] not in WORDS:
        raise NoRow("machines are joined by both, either, first or one")
    if words[0] == "shapes" and not is_figure(words[2]):
        raise NoRow("a number is one figure")
    return words


def is_figure(word):
    return len(word) == 1 and word in FIGURES


def same_told(told):
    return "yes" if told[0] == "alike" else "no " + show_row(told[1])


def shapes_told(shapes):
    return ", ".join([show_row(shape) for shape in shapes]) if shapes else "none"
