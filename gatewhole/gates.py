"""Gates of one, two or three inputs, their contraries, and the classes that hold them."""

from gatewhole.errors import NoClass, NoGate

CLASSES = ("nought", "one", "turn", "rise", "sum")
LENGTHS = (2, 4, 8)
MOST_GATES = 5

# What each input adds to the number of a row where it is True.
WEIGHTS = (1, 2, 4)


def check_gate(gate):
    if len(gate) not in LENGTHS:
        raise NoGate("a gate is a list of 2, 4 or 8 answers")


def check_gates(gates):
    if len(gates) < 1 or len(gates) > MOST_GATES:
        raise NoGate("gates are a list of 1 to 5 gates")
    for gate in gates:
        check_gate(gate)


def check_class(word):
    if word not in CLASSES:
        raise NoClass("a class is nought, one, turn, rise or sum")


def row_of(inputs):
    return sum([weight for weight, truth in zip(WEIGHTS, inputs) if truth])


def weights_of(gate):
    return [weight for weight in WEIGHTS if weight < len(gate)]


def inputs_of(gate):
    return len(weights_of(gate))


def rows_without(gate, weights):
    return [row for row in range(len(gate)) if (row & weights) == 0]


def answer(gate, inputs):
    check_gate(gate)
    return gate[row_of(inputs)]


def answers_to(gate, tables):
    # The gates are checked once, where they are handed in, and not again
    # at each knot or step that comes here.
    answers = []
    for row in range(len(tables[0])):
        answers.append(gate[row_of([table[row] for table in tables])])
    return answers


def contrary(gate):
    check_gate(gate)
    # The weights of all inputs add up to the last row, so the row of the
    # contrary inputs lies as far from the end as the row from the start.
    return [not truth for truth in reversed(gate)]


def nought_witness(gate):
    return (0,) if gate[0] else None


def one_witness(gate):
    last = len(gate) - 1
    return None if gate[last] else (last,)


def turn_witness(gate):
    last = len(gate) - 1
    for row in range(len(gate)):
        if gate[row] == gate[last - row]:
            return (row,)
    return None


def rise_witness(gate):
    for weight in weights_of(gate):
        for row in rows_without(gate, weight):
            if gate[row] and not gate[row + weight]:
                return (row, row + weight)
    return None


def odd_square(gate, weight, other):
    for row in rows_without(gate, weight + other):
        rows = (row, row + weight, row + other, row + weight + other)
        if [gate[corner] for corner in rows].count(True) % 2 == 1:
            return rows
    return None


def sum_witness(gate):
    # A gate is such a sum just where what one input changes in its answer
    # never hangs on another input, so squares of two inputs tell it all.
    for weight in weights_of(gate):
        for other in weights_of(gate):
            rows = odd_square(gate, weight, other) if weight < other else None
            if rows is not None:
                return rows
    return None


def witness(gate, word):
    check_gate(gate)
    check_class(word)
    if word == "nought":
        return nought_witness(gate)
    if word == "one":
        return one_witness(gate)
    if word == "turn":
        return turn_witness(gate)
    if word == "rise":
        return rise_witness(gate)
    return sum_witness(gate)


def is_in(gate, word):
    return witness(gate, word) is None


def classes(gate):
    check_gate(gate)
    return [word for word in CLASSES if is_in(gate, word)]
