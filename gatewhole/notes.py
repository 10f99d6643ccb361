"""Formulas written as texts, and read from them."""

from gatewhole.errors import NoNote
from gatewhole.formulas import check_all, check_many
from gatewhole.gates import check_gates, inputs_of

LETTERS = ("x", "y", "z")
FIGURES = ("0", "1", "2", "3", "4")


def written(formula):
    if formula[0] == "in":
        return LETTERS[formula[1]]
    figure = FIGURES[formula[1]]
    parts = " ".join([written(part) for part in formula[2]])
    return f"g{figure}({parts})"


def shown(gates, formula, many):
    check_all(gates, formula, many)
    return written(formula)


def number_of(sign, signs):
    if sign not in signs:
        raise NoNote("an input or a gate that there is should stand here")
    return signs.index(sign)


# Reads a text from its start on; it holds the place it has come to, so that
# the parts of a gate go on where the part ahead of them ends.
class Reader:
    def __init__(self, gates, text, many):
        self.gates = gates
        self.text = text
        self.place = 0
        self.letters = LETTERS[:many]
        self.figures = FIGURES[:len(gates)]

    def take_sign(self):
        # Behind the end the slice is the empty text, which is no sign.
        sign = self.text[self.place:self.place + 1]
        self.place += 1
        return sign

    def skip_sign(self, wanted):
        if self.take_sign() != wanted:
            raise NoNote("another sign should stand here")

    def take_formula(self):
        sign = self.take_sign()
        if sign == "g":
            return self.take_gate()
        return ("in", number_of(sign, self.letters))

    def take_gate(self):
        number = number_of(self.take_sign(), self.figures)
        self.skip_sign("(")
        parts = [self.take_formula()]
        while len(parts) < inputs_of(self.gates[number]):
            self.skip_sign(" ")
            parts.append(self.take_formula())
        self.skip_sign(")")
        return ("gate", number, tuple(parts))


def read(gates, text, many):
    check_gates(gates)
    check_many(many)
    reader = Reader(gates, text, many)
    formula = reader.take_formula()
    if reader.place < len(text):
        raise NoNote("something stands behind the formula")
    return formula
