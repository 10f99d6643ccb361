"""Points 6 to 9 of the document, and the interface under gatewhole/formulas.py."""

import unittest
from itertools import product

import helper
from gatewhole import formulas
from gatewhole.errors import NoFormula, NoInputs
from gatewhole.gates import contrary
from helper import F, SOME_GATES, T, g, x

WRONG_MANY = [0, 4, 5, 9, -1, -2, -3, -9, 10 ** 30, -10 ** 30]
WRONG_LENGTHS = [0, 4, 5, 6, 7, 8, 9]
WRONG_ANYWAY = [x(9), x(-1), g(7), g(-1, x(0)), g(1, x(0)), g(0, x(0), g(9)), x(0), g(0, x(0)), g(1, x(0), x(1))]
SHAPES = [x(0), g(0, x(0)), g(1, g(0, x(0)), g(2, x(0), g(4, x(0)), g(3, x(0), g(0, x(0)))))]


def wide_and_deep(many):
    return [helper.deep_formula(SOME_GATES, many, 30), helper.deep_formula(SOME_GATES, many, 31),
            helper.deep_formula(SOME_GATES[:1], many, 30), g(0, helper.wide_formula(many, 149)),
            helper.wide_formula(many, 149)]


class Interface(unittest.TestCase):
    def test_names_and_arguments(self):
        told = {"reckoned": ["gates", "formula", "inputs"], "table_of": ["gates", "formula", "many"],
                "put": ["gates", "formula", "parts"]}
        for name, arguments in told.items():
            with self.subTest(name=name):
                self.assertEqual(helper.arguments_of(getattr(formulas, name)), arguments)


class Inputs(unittest.TestCase):
    def test_another_number_of_truths_is_refused_whatever_the_formula(self):
        for length in WRONG_LENGTHS:
            for formula in WRONG_ANYWAY:
                for truth in (F, T):
                    with self.subTest(length=length, formula=formula), self.assertRaises(NoInputs):
                        formulas.reckoned(SOME_GATES, formula, [truth] * length)

    def test_another_number_of_inputs_is_refused_whatever_the_formula(self):
        for many in WRONG_MANY:
            for formula in WRONG_ANYWAY:
                with self.subTest(many=many, formula=formula), self.assertRaises(NoInputs):
                    formulas.table_of(SOME_GATES, formula, many)

    def test_another_number_of_parts_to_put_is_refused_whatever_the_formulas(self):
        for length in WRONG_LENGTHS:
            for formula in WRONG_ANYWAY:
                for part in WRONG_ANYWAY:
                    with self.subTest(length=length, formula=formula, part=part), self.assertRaises(NoInputs):
                        formulas.put(SOME_GATES, formula, [part] * length)


class WrongFormulas(unittest.TestCase):
    def refused(self, formula, many):
        with self.assertRaises(NoFormula, msg=(formula, many)):
            formulas.reckoned(SOME_GATES, formula, [F] * many)
        with self.assertRaises(NoFormula, msg=(formula, many)):
            formulas.reckoned(SOME_GATES, formula, [T] * many)
        with self.assertRaises(NoFormula, msg=(formula, many)):
            formulas.table_of(SOME_GATES, formula, many)
        with self.assertRaises(NoFormula, msg=(formula, many)):
            formulas.put(SOME_GATES, formula, [x(0)] * many)

    def test_written_out(self):
        for formula in (x(1), x(-1), g(5, x(0)), g(-1, x(0)), g(0), g(0, x(0), x(0)), g(1, x(0)),
                        g(1, x(0), x(0), x(0)), g(2, x(0), x(0)), g(0, x(1)), g(4, x(1)), g(3, x(1), x(0))):
            self.refused(formula, 1)
        self.refused(x(2), 2)
        self.refused(g(1, x(0), x(2)), 2)
        self.refused(x(3), 3)
        self.refused(g(2, x(0), x(3), x(1)), 3)

    def test_one_knot_wrong_at_the_top_and_within(self):
        for many in (1, 2, 3):
            for shape in SHAPES:
                for formula in helper.wrong_formulas(SOME_GATES, shape, many):
                    self.refused(formula, many)

    def test_by_a_single_gate(self):
        for gate in ([T, F], [T, T, T, F], [F, F, F, T, F, T, T, T]):
            parts = tuple(x(0) for place in range(helper.inputs_of(gate)))
            for formula in helper.wrong_formulas([gate], ("gate", 0, parts), 2):
                with self.subTest(gate=gate, formula=formula), self.assertRaises(NoFormula):
                    formulas.table_of([gate], formula, 2)

    def test_one_knot_wrong_at_the_bottom_of_a_deep_one(self):
        for many in (1, 2, 3):
            for wrong in (x(many), x(-1), g(5, x(0)), g(-5, x(0)), g(0), g(1, x(0)), g(1, x(0), x(0), x(0))):
                formula = wrong
                for level in range(27):
                    formula = g(0, formula)
                self.refused(formula, many)
                self.refused(g(3, formula, x(0)), many)
                self.refused(g(4, formula), many)
                self.refused(g(3, g(4, formula), x(0)), many)

    def test_no_wrong_number_of_gates_is_taken_from_the_end(self):
        for number in range(-5, 0):
            parts = [x(0)] * helper.inputs_of(SOME_GATES[number])
            self.refused(g(number, *parts), 1)
            self.refused(g(0, g(number, *parts)), 1)


class WrongPartsToPut(unittest.TestCase):
    def test_a_wrong_part_is_refused_whether_it_is_used_or_not(self):
        for many in (1, 2, 3):
            for formula in (x(0), x(many - 1), g(4, x(0)), g(0, g(0, x(many - 1)))):
                for place in range(many):
                    for wrong in helper.wrong_formulas(SOME_GATES, SHAPES[1], 3):
                        parts = [x(2) for number in range(many)]
                        parts[place] = wrong
                        with self.assertRaises(NoFormula, msg=(formula, parts)):
                            formulas.put(SOME_GATES, formula, parts)

    def test_parts_have_inputs_0_to_2_whatever_the_number_of_parts(self):
        for many in (1, 2, 3):
            for number in range(3):
                self.assertEqual(formulas.put(SOME_GATES, x(0), [x(number)] * many), x(number))
                self.assertEqual(formulas.put(SOME_GATES, g(0, x(many - 1)), [g(1, x(2), x(number))] * many),
                                 g(0, g(1, x(2), x(number))))
            for number in (3, 4, -1, -3, 99):
                with self.subTest(many=many, number=number), self.assertRaises(NoFormula):
                    formulas.put(SOME_GATES, x(0), [x(number)] * many)

    def test_the_formula_has_as_many_inputs_as_parts(self):
        for many in (1, 2, 3):
            for number in range(6):
                parts = [g(0, x(place)) for place in range(many)]
                if number < many:
                    self.assertEqual(formulas.put(SOME_GATES, x(number), parts), g(0, x(number)))
                else:
                    self.assertRaises(NoFormula, formulas.put, SOME_GATES, x(number), parts)


class Reckoning(unittest.TestCase):
    def test_written_out(self):
        take = [[F, T, F, F], [T, F]]
        self.assertIs(formulas.reckoned(take, x(0), [T]), T)
        self.assertIs(formulas.reckoned(take, x(1), [T, F]), F)
        self.assertIs(formulas.reckoned(take, x(2), [F, F, T]), T)
        self.assertIs(formulas.reckoned(take, g(0, x(0), x(1)), [T, F]), T)
        self.assertIs(formulas.reckoned(take, g(0, x(0), x(1)), [F, T]), F)
        self.assertIs(formulas.reckoned(take, g(0, x(1), x(0)), [F, T]), T)
        self.assertIs(formulas.reckoned(take, g(1, g(0, x(1), x(0))), [F, T]), F)
        self.assertEqual(formulas.table_of(take, x(0), 1), [F, T])
        self.assertEqual(formulas.table_of(take, x(0), 2), [F, T, F, T])
        self.assertEqual(formulas.table_of(take, x(1), 2), [F, F, T, T])
        self.assertEqual(formulas.table_of(take, x(2), 3), [F, F, F, F, T, T, T, T])
        self.assertEqual(formulas.table_of(take, g(0, x(0), x(1)), 2), [F, T, F, F])
        self.assertEqual(formulas.table_of(take, g(0, x(1), x(0)), 2), [F, F, T, F])
        self.assertEqual(formulas.table_of(take, g(0, x(2), x(1)), 3), [F, F, F, F, T, T, F, F])
        self.assertEqual(formulas.table_of(take, g(1, x(1)), 3), [T, T, F, F, T, T, F, F])

    def holds(self, gates, formula, many):
        told = formulas.table_of(gates, formula, many)
        self.assertIs(type(told), list)
        self.assertEqual(len(told), 2 ** many)
        for inputs in helper.all_inputs(many):
            asked = helper.value(gates, formula, inputs)
            self.assertIs(formulas.reckoned(gates, formula, inputs), asked, (gates, formula, inputs))
            self.assertIs(told[helper.row(inputs)], asked, (gates, formula, inputs))

    def test_each_gate_by_itself(self):
        for gate in helper.all_gates():
            own = helper.inputs_of(gate)
            self.assertEqual(formulas.table_of([gate], ("gate", 0, tuple(x(place) for place in range(own))), own), gate)

    def test_each_gate_of_two_inputs_in_all_orders_of_inputs(self):
        for gate in helper.gates_of(2):
            for many in (1, 2, 3):
                for first, second in product(range(many), repeat=2):
                    self.holds([gate], g(0, x(first), x(second)), many)

    def test_some_gates_of_three_inputs_in_all_orders_of_inputs(self):
        for gate in helper.gates_of(3)[::17]:
            for many in (1, 2, 3):
                for first, second, third in product(range(many), repeat=3):
                    self.holds([gate], g(0, x(first), x(second), x(third)), many)

    def test_many_gates_and_formulas(self):
        for number, gates in enumerate(helper.many_gates(1, 60)):
            for many in (1, 2, 3):
                for formula in helper.some_formulas(number, gates, many):
                    self.holds(gates, formula, many)

    def test_wide_and_deep_formulas(self):
        for many in (1, 2, 3):
            for formula in wide_and_deep(many):
                self.holds(SOME_GATES, formula, many)
        self.assertEqual(helper.depth_of(wide_and_deep(3)[0]), 30)
        self.assertEqual(helper.knots(wide_and_deep(3)[3]), 300)


def with_put(formula, parts):
    """The formula with each input put, by the sentence of point 8."""
    if formula[0] == "in":
        return parts[formula[1]]
    return (formula[0], formula[1], tuple(with_put(part, parts) for part in formula[2]))


def all_tuples(formula):
    """Whether it is a formula in tuples and whole numbers alone."""
    if type(formula) is not tuple or type(formula[1]) is not int:
        return False
    if formula[0] == "in":
        return len(formula) == 2
    return (formula[0] == "gate" and len(formula) == 3 and type(formula[2]) is tuple
            and all(all_tuples(part) for part in formula[2]))


class Putting(unittest.TestCase):
    def test_written_out(self):
        self.assertEqual(formulas.put(SOME_GATES, x(0), [g(0, x(2))]), g(0, x(2)))
        self.assertEqual(formulas.put(SOME_GATES, x(1), [x(0), x(2)]), x(2))
        self.assertEqual(formulas.put(SOME_GATES, g(1, x(0), x(1)), [x(1), x(0)]), g(1, x(1), x(0)))
        self.assertEqual(formulas.put(SOME_GATES, g(1, x(0), g(0, x(1))), [g(0, x(1)), g(1, x(0), x(2))]),
                         g(1, g(0, x(1)), g(0, g(1, x(0), x(2)))))
        self.assertEqual(formulas.put(SOME_GATES, g(2, x(2), x(0), x(2)), [x(0), x(1), g(4, x(1))]),
                         g(2, g(4, x(1)), x(0), g(4, x(1))))

    def holds(self, gates, formula, parts):
        told = formulas.put(gates, formula, parts)
        self.assertTrue(all_tuples(told), told)
        self.assertEqual(told, with_put(formula, parts))
        for inputs in helper.all_inputs(3):
            between = [helper.value(gates, part, inputs) for part in parts]
            self.assertIs(helper.value(gates, told, inputs), helper.value(gates, formula, between))
            self.assertIs(formulas.reckoned(gates, told, inputs), formulas.reckoned(gates, formula, between))

    def test_many_gates_and_formulas(self):
        for number, gates in enumerate(helper.many_gates(2, 40)):
            for many in (1, 2, 3):
                pool = helper.some_formulas(number + 1000, gates, 3)
                for place, formula in enumerate(helper.some_formulas(number, gates, many, 3)):
                    self.holds(gates, formula, [pool[(place + step) % len(pool)] for step in range(many)])

    def test_wide_and_deep_formulas(self):
        for many in (1, 2, 3):
            for formula in wide_and_deep(many):
                parts = [g(0, x(2)), x(0), g(1, x(1), x(2))][:many]
                self.holds(SOME_GATES, formula, parts)
                self.assertEqual(formulas.put(SOME_GATES, x(0), [formula] * many), formula)
                self.assertEqual(formulas.put(SOME_GATES, formula, [x(0), x(1), x(2)][:many]), formula)
                deep = helper.deep_formula(SOME_GATES, 3, 30)
                self.assertEqual(formulas.put(SOME_GATES, formula, [deep] * many), with_put(formula, [deep] * many))


class ClassOfAll(unittest.TestCase):
    def test_a_class_that_holds_each_gate_holds_the_table(self):
        seen = {word: 0 for word in helper.WORDS}
        held = {word: [gate for gate in helper.all_gates() if helper.holds(gate, word)] for word in helper.WORDS}
        for word in helper.WORDS:
            for start in range(20):
                # A gate that is not in the class may be there, if it doesn't stand in the formula.
                gates = helper.copied(held[word][start::20][:4])
                for many in (1, 2, 3):
                    for formula in helper.some_formulas(start, gates, many):
                        told = formulas.table_of(gates + [[T, T, T, F]], formula, many)
                        self.assertTrue(helper.holds(told, word), (gates, formula, word))
                        seen[word] += 1
        self.assertTrue(all(many > 100 for many in seen.values()), seen)

    def test_by_the_gates_that_stand_in_the_formula(self):
        for number, gates in enumerate(helper.many_gates(3, 60)):
            for many in (1, 2, 3):
                for formula in helper.some_formulas(number, gates, many):
                    standing = [gates[place] for place in helper.gates_within(formula)]
                    told = formulas.table_of(gates, formula, many)
                    for word in helper.WORDS:
                        if all(helper.holds(gate, word) for gate in standing):
                            self.assertTrue(helper.holds(told, word), (gates, formula, word))

    def test_the_contraries_make_the_contrary(self):
        for number, gates in enumerate(helper.many_gates(4, 60) + [SOME_GATES]):
            turned = [contrary(gate) for gate in gates]
            for many in (1, 2, 3):
                for formula in helper.some_formulas(number, gates, many):
                    self.assertEqual(formulas.table_of(turned, formula, many),
                                     contrary(formulas.table_of(gates, formula, many)), (gates, formula))


if __name__ == "__main__":
    unittest.main()
