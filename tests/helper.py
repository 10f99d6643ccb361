"""What several test files need: gates and formulas, and the document's sentences about them, told again."""

import inspect
from itertools import product
from random import Random

T = True
F = False

WORDS = ["nought", "one", "turn", "rise", "sum"]
NO_WORDS = ["", " ", "Nought", "NOUGHT", "nought ", " nought", "One", "one ", " one", "Turn", "turn\n", "turn\t",
            "RISE", "rises", "ris", "Sum", "sum ", "sums", "s", "o", "noughtone", "nought one", "contrary", "None"]
BAD_LENGTHS = [many for many in range(21) if many not in (2, 4, 8)]


def arguments_of(function):
    """The names of its arguments; one that may be left out shows its default behind its name."""
    return [str(argument) for argument in inspect.signature(function).parameters.values()]


def gates_of(many):
    return [list(answers) for answers in product([False, True], repeat=2 ** many)]


def all_gates():
    return gates_of(1) + gates_of(2) + gates_of(3)


def inputs_of(gate):
    return {2: 1, 4: 2, 8: 3}[len(gate)]


def all_inputs(many):
    return [list(inputs) for inputs in product([False, True], repeat=many)]


def row(inputs):
    number = 0
    if inputs[0]:
        number += 1
    if len(inputs) > 1 and inputs[1]:
        number += 2
    if len(inputs) > 2 and inputs[2]:
        number += 4
    return number


def inputs_at(number, many):
    return [inputs for inputs in all_inputs(many) if row(inputs) == number][0]


def turned(inputs):
    return [not truth for truth in inputs]


def raised(inputs, place):
    """The inputs with the one at the place True, or None where it is so already."""
    if inputs[place]:
        return None
    return inputs[:place] + [True] + inputs[place + 1:]


def bad_lists():
    lists = []
    for many in BAD_LENGTHS:
        lists.append([False] * many)
        lists.append([True] * many)
        lists.append([place % 2 == 0 for place in range(many)])
        lists.append([place % 3 == 1 for place in range(many)])
    return lists


def odd_among(inputs, chosen):
    return len([1 for truth, taken in zip(inputs, chosen) if truth and taken]) % 2 == 1


def holds(gate, word):
    """Whether the gate is in the class, by the class's own sentence in point 4."""
    many = inputs_of(gate)
    told = {tuple(inputs): gate[row(inputs)] for inputs in all_inputs(many)}
    if word == "nought":
        return told[(F,) * many] is F
    if word == "one":
        return told[(T,) * many] is T
    if word == "turn":
        return all(told[inputs] != told[tuple(turned(inputs))] for inputs in told)
    if word == "rise":
        return not any(told[inputs] and not told[inputs[:place] + (T,) + inputs[place + 1:]]
                       for inputs in told for place in range(many) if not inputs[place])
    return any(all(told[inputs] == (odd_among(inputs, chosen) == when_odd) for inputs in told)
               for chosen in product([F, T], repeat=many) for when_odd in (F, T))


# Gates of one, two and three inputs: the contrary, both, a choice between two,
# the second input whatever the first, and one that never answers True.
SOME_GATES = [[T, F], [F, F, F, T], [F, T, F, T, F, F, T, T], [F, F, T, T], [F, F]]


def copied(gates):
    return [list(gate) for gate in gates]


def many_gates(seed, many):
    """So many lists of one to five gates, always the same ones for a seed."""
    chance = Random(seed)
    pools = [gates_of(1), gates_of(2), gates_of(3)]
    return [[list(chance.choice(chance.choice(pools))) for place in range(chance.randint(1, 5))]
            for time in range(many)]


def wrong_gates():
    """Lists that are no gates: too few, too many, or with a list in them that is no gate."""
    wrong = [[]]
    for many in (6, 7, 8, 9):
        wrong.append([[T, F] for place in range(many)])
        wrong.append([list(SOME_GATES[place % 5]) for place in range(many)])
    for length in (0, 1, 3, 5, 6, 7, 9, 10, 15, 16, 20):
        for many in range(1, 7):
            for place in range(many):
                gates = copied((SOME_GATES + SOME_GATES)[:many])
                gates[place] = [number % 2 == 0 for number in range(length)]
                wrong.append(gates)
    return wrong


def x(number):
    return ("in", number)


def g(number, *parts):
    return ("gate", number, tuple(parts))


def random_formula(chance, gates, many, depth):
    if depth == 0 or chance.random() < 0.15:
        return x(chance.randrange(many))
    number = chance.randrange(len(gates))
    return ("gate", number, tuple(random_formula(chance, gates, many, depth - 1)
                                  for place in range(inputs_of(gates[number]))))


def some_formulas(seed, gates, many, how_many=6):
    chance = Random(seed)
    return [x(number) for number in range(many)] + [
        random_formula(chance, gates, many, chance.randint(1, 4)) for time in range(how_many)]


def deep_formula(gates, many, depth):
    """As deep as told, an input being 1 deep, with a gate of each kind in turn; its other parts are inputs."""
    formula = x(0)
    for level in range(depth - 1):
        number = level % len(gates)
        parts = [x((level + place) % many) for place in range(inputs_of(gates[number]))]
        parts[level % len(parts)] = formula
        formula = ("gate", number, tuple(parts))
    return formula


def wide_formula(many, gates_in_it):
    """Of gate 1 of SOME_GATES, of two inputs: twice so many knots and one more."""
    layer = [x(number % many) for number in range(gates_in_it + 1)]
    while len(layer) > 1:
        pairs = [g(1, layer[place], layer[place + 1]) for place in range(0, len(layer) - 1, 2)]
        layer = pairs + layer[len(pairs) * 2:]
    return layer[0]


def knots(formula):
    return 1 if formula[0] == "in" else 1 + sum(knots(part) for part in formula[2])


def depth_of(formula):
    return 1 if formula[0] == "in" else 1 + max(depth_of(part) for part in formula[2])


def value(gates, formula, inputs):
    """What the formula reckons, by the sentence of point 7."""
    if formula[0] == "in":
        return inputs[formula[1]]
    return gates[formula[1]][row([value(gates, part, inputs) for part in formula[2]])]


def table(gates, formula, many):
    return [value(gates, formula, inputs_at(number, many)) for number in range(2 ** many)]


def gates_within(formula):
    if formula[0] == "in":
        return set()
    return {formula[1]}.union(*[gates_within(part) for part in formula[2]])


def with_knot(formula, change):
    """All formulas that come where one knot is put otherwise, by a function that tells the ones for a knot."""
    changed = list(change(formula))
    if formula[0] == "gate":
        for place, part in enumerate(formula[2]):
            for other in with_knot(part, change):
                changed.append(("gate", formula[1], formula[2][:place] + (other,) + formula[2][place + 1:]))
    return changed


FAR = [99, 10 ** 30, -10 ** 30, -99]


def wrong_knots(gates, many):
    """For a knot the ones that are wrong in its place, as point 6 tells."""
    def change(formula):
        wrong = [x(number) for number in [many, many + 1, -1, -2, -many, -many - 1] + FAR]
        for number in [len(gates), len(gates) + 1, -1, -2, -len(gates)] + FAR:
            wrong += [g(number, *[x(0)] * count) for count in (0, 1, 2, 3)]
        for number, gate in enumerate(gates):
            wrong += [g(number, *[x(0)] * count) for count in range(6) if count != inputs_of(gate)]
        if formula[0] == "gate":
            wrong += [("gate", formula[1], formula[2] + (x(0),)), ("gate", formula[1], formula[2] + (formula,)),
                      ("gate", formula[1], formula[2][1:]), ("gate", formula[1], formula[2][:-1]),
                      ("gate", len(gates), formula[2]), ("gate", formula[1] - len(gates), formula[2])]
        return wrong
    return change


def wrong_formulas(gates, formula, many):
    return with_knot(formula, wrong_knots(gates, many))
