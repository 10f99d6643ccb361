"""Which tables of two inputs some gates can make, by which plans, and which classes bar the others."""

from gatewhole.errors import NoTable, NotMade
from gatewhole.formulas import tables_of_inputs
from gatewhole.gates import CLASSES, answers_to, check_gates, inputs_of, is_in

ROWS = 4
ALL_TABLES = 16


def check_table(table):
    if len(table) != ROWS:
        raise NoTable("a table of two inputs is a list of four answers")


def holds_each(gates, word):
    return all([is_in(gate, word) for gate in gates])


def bars(gates):
    check_gates(gates)
    return [word for word in CLASSES if holds_each(gates, word)]


def places_below(end, many):
    if many == 0:
        return [()]
    longer = []
    for places in places_below(end, many - 1):
        longer.extend([places + (place,) for place in range(end)])
    return longer


def places_up_to(last, many):
    return [places for places in places_below(last + 1, many) if last in places]


# The tables made so far, each once, and at the same place the step that makes
# it. The tables are tuples, so that none of them is a list that is told.
class Makings:
    def __init__(self, gates):
        self.gates = gates
        self.tables = [tuple(table) for table in tables_of_inputs(2)]
        self.steps = [("in", 0), ("in", 1)]

    def take_step(self, number, places):
        table = tuple(answers_to(self.gates[number], [self.tables[place] for place in places]))
        # A table that is there already needs no second step, which also
        # keeps every plan to as many steps as there are tables.
        if table not in self.tables:
            self.tables.append(table)
            self.steps.append(("gate", number, places))

    def take_steps_up_to(self, last):
        for number, gate in enumerate(self.gates):
            for places in places_up_to(last, inputs_of(gate)):
                self.take_step(number, places)


def makings_of(gates):
    makings = Makings(gates)
    last = 0
    # Places are combined when the last of them has its turn, so each
    # combination comes once, though the tables grow meanwhile.
    while last < len(makings.tables) and len(makings.tables) < ALL_TABLES:
        makings.take_steps_up_to(last)
        last += 1
    return makings


def makable(gates):
    check_gates(gates)
    return [list(table) for table in sorted(makings_of(gates).tables)]


def made(gates, table):
    check_gates(gates)
    check_table(table)
    makings = makings_of(gates)
    if tuple(table) not in makings.tables:
        raise NotMade("the gates cannot make this table")
    return makings.steps[:makings.tables.index(tuple(table)) + 1]
