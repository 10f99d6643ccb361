"""Formulas of gates: what they reckon, their tables, and formulas put into them."""

from gatewhole.errors import NoFormula, NoInputs
from gatewhole.gates import LENGTHS, WEIGHTS, answers_to, check_gates, inputs_of

MOST_INPUTS = 3


def check_many(many):
    if many < 1 or many > MOST_INPUTS:
        raise NoInputs("there are 1 to 3 inputs")


def check_input(number, many):
    if number < 0 or number >= many:
        raise NoFormula("the formula has an input that there isn't")


def check_knot(gates, number, parts):
    if number < 0 or number >= len(gates):
        raise NoFormula("the formula has a gate that there isn't")
    if len(parts) != inputs_of(gates[number]):
        raise NoFormula("a gate of the formula has another number of parts than of inputs")


def check_formula(gates, formula, many):
    if formula[0] == "in":
        check_input(formula[1], many)
    else:
        check_knot(gates, formula[1], formula[2])
        for part in formula[2]:
            check_formula(gates, part, many)


def check_all(gates, formula, many):
    check_gates(gates)
    check_many(many)
    check_formula(gates, formula, many)


def table_of_input(number, many):
    return [(row & WEIGHTS[number]) != 0 for row in range(LENGTHS[many - 1])]


def tables_of_inputs(many):
    return [table_of_input(number, many) for number in range(many)]


def table_from(gates, formula, tables):
    if formula[0] == "in":
        return list(tables[formula[1]])
    parts = [table_from(gates, part, tables) for part in formula[2]]
    return answers_to(gates[formula[1]], parts)


def reckoned(gates, formula, inputs):
    check_all(gates, formula, len(inputs))
    # What is told for the inputs is a table of one row.
    return table_from(gates, formula, [[truth] for truth in inputs])[0]


def table_of(gates, formula, many):
    check_all(gates, formula, many)
    return table_from(gates, formula, tables_of_inputs(many))


def with_parts(formula, parts):
    if formula[0] == "in":
        return parts[formula[1]]
    return ("gate", formula[1], tuple([with_parts(part, parts) for part in formula[2]]))


def put(gates, formula, parts):
    check_all(gates, formula, len(parts))
    for part in parts:
        # The parts' own inputs are 0 to 2, however many parts there are.
        check_formula(gates, part, MOST_INPUTS)
    return with_parts(formula, parts)
