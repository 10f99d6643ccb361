"""What several test files need: all gates, and rows read as inputs."""

from itertools import product

WORDS = ["nought", "one", "turn", "rise", "sum"]
NO_WORDS = ["", " ", "Nought", "NOUGHT", "nought ", " nought", "One", "one ", " one", "Turn", "turn\n", "turn\t",
            "RISE", "rises", "ris", "Sum", "sum ", "sums", "s", "o", "noughtone", "nought one", "contrary", "None"]
BAD_LENGTHS = [many for many in range(21) if many not in (2, 4, 8)]


def gates_of(many):
    return [list(answers) for answers in product([False, True], repeat=2 ** many)]


def all_gates():
    return gates_of(1) + gates_of(2) + gates_of(3)


def inputs_of(gate):
    return {2: 1, 4: 2, 8: 3}[len(gate)]


def all_inputs(many):
    return [list(inputs) for inputs in product([False, True], repeat=many)]


def row(inputs):
    number = 0
    if inputs[0]:
        number += 1
    if len(inputs) > 1 and inputs[1]:
        number += 2
    if len(inputs) > 2 and inputs[2]:
        number += 4
    return number


def inputs_at(number, many):
    return [inputs for inputs in all_inputs(many) if row(inputs) == number][0]


def turned(inputs):
    return [not truth for truth in inputs]


def raised(inputs, place):
    """The inputs with the one at the place True, or None where it is so already."""
    if inputs[place]:
        return None
    return inputs[:place] + [True] + inputs[place + 1:]


def bad_lists():
    lists = []
    for many in BAD_LENGTHS:
        lists.append([False] * many)
        lists.append([True] * many)
        lists.append([place % 2 == 0 for place in range(many)])
        lists.append([place % 3 == 1 for place in range(many)])
    return lists
