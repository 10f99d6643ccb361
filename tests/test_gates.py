"""Points 1 to 5 of the document, as far as they speak of gatewhole/gates.py."""

import unittest

import helper
from gatewhole import gates
from gatewhole.errors import NoClass, NoGate

T = True
F = False


def shows(gate, word, rows):
    """Whether the rows are a witness that the gate is not in the class, as point 5 tells."""
    many = helper.inputs_of(gate)
    if any(number not in range(len(gate)) for number in rows):
        return False
    inputs = [helper.inputs_at(number, many) for number in rows]
    answers = [gate[number] for number in rows]
    if word == "nought":
        return inputs == [[F] * many] and answers == [T]
    if word == "one":
        return inputs == [[T] * many] and answers == [F]
    if word == "turn":
        return len(rows) == 1 and answers[0] == gate[helper.row(helper.turned(inputs[0]))]
    if word == "rise":
        return (len(rows) == 2 and answers == [T, F]
                and inputs[1] in [helper.raised(inputs[0], place) for place in range(many)])
    return len(rows) == 4 and answers.count(T) in (1, 3) and is_square(inputs, many)


def is_square(inputs, many):
    for first in range(many):
        for second in range(many):
            one = helper.raised(inputs[0], first)
            other = helper.raised(inputs[0], second)
            if first != second and one is not None and other is not None:
                if inputs[1:] == [one, other, helper.raised(one, second)]:
                    return True
    return False


class Interface(unittest.TestCase):
    def test_names_and_arguments(self):
        told = {"answer": ["gate", "inputs"], "contrary": ["gate"], "is_in": ["gate", "word"],
                "classes": ["gate"], "witness": ["gate", "word"]}
        for name, arguments in told.items():
            with self.subTest(name=name):
                self.assertEqual(helper.arguments_of(getattr(gates, name)), arguments)


class Answers(unittest.TestCase):
    def test_written_out(self):
        self.assertIs(gates.answer([F, T], [F]), F)
        self.assertIs(gates.answer([F, T], [T]), T)
        self.assertIs(gates.answer([F, T, F, F], [T, F]), T)
        self.assertIs(gates.answer([F, T, F, F], [F, T]), F)
        self.assertIs(gates.answer([F, F, T, F], [F, T]), T)
        self.assertIs(gates.answer([F, F, T, F], [T, F]), F)
        self.assertIs(gates.answer([F, F, F, T], [T, T]), T)
        self.assertIs(gates.answer([F, T, F, F, F, F, F, F], [T, F, F]), T)
        self.assertIs(gates.answer([F, F, T, F, F, F, F, F], [F, T, F]), T)
        self.assertIs(gates.answer([F, F, F, F, T, F, F, F], [F, F, T]), T)
        self.assertIs(gates.answer([F, F, F, F, F, F, T, F], [F, T, T]), T)
        self.assertIs(gates.answer([F, F, F, T, F, F, F, F], [F, T, T]), F)

    def test_all_gates_at_all_rows(self):
        for gate in helper.all_gates():
            for inputs in helper.all_inputs(helper.inputs_of(gate)):
                self.assertIs(gates.answer(gate, inputs), gate[helper.row(inputs)], (gate, inputs))


class Refusals(unittest.TestCase):
    def test_answer_refuses_lists_of_another_length(self):
        for gate in helper.bad_lists():
            for inputs in ([], [F], [T], [T, F], [T, T], [F, T, T], [T, T, T], [T, F, T, T], [F] * 4):
                with self.subTest(gate=gate, inputs=inputs), self.assertRaises(NoGate):
                    gates.answer(gate, inputs)

    def test_contrary_and_classes_refuse_lists_of_another_length(self):
        for gate in helper.bad_lists():
            with self.subTest(gate=gate):
                with self.assertRaises(NoGate):
                    gates.contrary(gate)
                with self.assertRaises(NoGate):
                    gates.classes(gate)

    def test_no_gate_goes_ahead_of_no_class(self):
        for gate in helper.bad_lists():
            for word in helper.WORDS + helper.NO_WORDS:
                with self.subTest(gate=gate, word=word):
                    with self.assertRaises(NoGate):
                        gates.is_in(gate, word)
                    with self.assertRaises(NoGate):
                        gates.witness(gate, word)

    def test_another_word_is_no_class(self):
        for gate in helper.gates_of(1) + helper.gates_of(2) + helper.gates_of(3)[::15]:
            for word in helper.NO_WORDS:
                with self.subTest(gate=gate, word=word):
                    with self.assertRaises(NoClass):
                        gates.is_in(gate, word)
                    with self.assertRaises(NoClass):
                        gates.witness(gate, word)


class Contraries(unittest.TestCase):
    def test_written_out(self):
        self.assertEqual(gates.contrary([F, T]), [F, T])
        self.assertEqual(gates.contrary([F, F]), [T, T])
        self.assertEqual(gates.contrary([F, F, F, T]), [F, T, T, T])
        self.assertEqual(gates.contrary([F, T, F, F]), [T, T, F, T])
        self.assertEqual(gates.contrary([F, T, F, F, F, F, F, F]), [T, T, T, T, T, T, F, T])

    def test_row_by_row(self):
        for gate in helper.all_gates():
            told = gates.contrary(gate)
            self.assertIs(type(told), list)
            self.assertEqual(len(told), len(gate))
            for inputs in helper.all_inputs(helper.inputs_of(gate)):
                asked = gate[helper.row(helper.turned(inputs))]
                self.assertIs(told[helper.row(inputs)], not asked, (gate, inputs))

    def test_contrary_of_the_contrary_is_the_gate(self):
        for gate in helper.all_gates():
            self.assertEqual(gates.contrary(gates.contrary(gate)), gate)


class Classes(unittest.TestCase):
    def test_written_out(self):
        self.assertEqual(gates.classes([F, T]), ["nought", "one", "turn", "rise", "sum"])
        self.assertEqual(gates.classes([T, F]), ["turn", "sum"])
        self.assertEqual(gates.classes([F, F]), ["nought", "rise", "sum"])
        self.assertEqual(gates.classes([T, T]), ["one", "rise", "sum"])
        self.assertEqual(gates.classes([F, F, F, T]), ["nought", "one", "rise"])
        self.assertEqual(gates.classes([F, T, T, F]), ["nought", "sum"])
        self.assertEqual(gates.classes([T, F, F, T]), ["one", "sum"])
        self.assertEqual(gates.classes([T, T, T, F]), [])
        self.assertEqual(gates.classes([F, F, F, T, F, T, T, T]), ["nought", "one", "turn", "rise"])
        self.assertEqual(gates.classes([F, T, T, F, T, F, F, T]), ["nought", "one", "turn", "sum"])

    def test_each_class_by_its_sentence(self):
        for gate in helper.all_gates():
            for word in helper.WORDS:
                self.assertIs(gates.is_in(gate, word), helper.holds(gate, word), (gate, word))

    def test_classes_in_their_order(self):
        for gate in helper.all_gates():
            told = gates.classes(gate)
            self.assertIs(type(told), list)
            self.assertEqual(told, [word for word in helper.WORDS if helper.holds(gate, word)], gate)


class Witnesses(unittest.TestCase):
    def test_written_out(self):
        self.assertEqual(gates.witness([T, F], "nought"), (0,))
        self.assertEqual(gates.witness([T, F], "one"), (1,))
        self.assertEqual(gates.witness([T, F], "rise"), (0, 1))
        self.assertIn(gates.witness([F, F], "turn"), [(0,), (1,)])
        self.assertIn(gates.witness([F, F, F, T], "sum"), [(0, 1, 2, 3), (0, 2, 1, 3)])
        self.assertIn(gates.witness([T, T, T, F], "rise"), [(1, 3), (2, 3)])
        self.assertEqual(gates.witness([T, F, F, F, F, F, F, F], "one"), (7,))
        self.assertIsNone(gates.witness([F, T], "sum"))

    def test_none_just_where_the_gate_is_in_the_class(self):
        for gate in helper.all_gates():
            for word in helper.WORDS:
                self.assertEqual(gates.witness(gate, word) is None, helper.holds(gate, word), (gate, word))

    def test_a_witness_shows_that_the_gate_is_not_in_the_class(self):
        for gate in helper.all_gates():
            for word in helper.WORDS:
                rows = gates.witness(gate, word)
                if rows is not None:
                    self.assertIs(type(rows), tuple)
                    self.assertTrue(all(type(number) is int for number in rows), (gate, word, rows))
                    self.assertTrue(shows(gate, word, rows), (gate, word, rows))


class OwnLists(unittest.TestCase):
    def ask_all(self, gate):
        many = helper.inputs_of(gate)
        return ([gates.answer(gate, inputs) for inputs in helper.all_inputs(many)], gates.contrary(gate),
                [gates.is_in(gate, word) for word in helper.WORDS], gates.classes(gate),
                [gates.witness(gate, word) for word in helper.WORDS])

    def test_what_is_handed_in_is_not_changed(self):
        for gate in helper.all_gates():
            before = list(gate)
            self.ask_all(gate)
            self.assertEqual(gate, before)
            for inputs in helper.all_inputs(helper.inputs_of(gate)):
                told = list(inputs)
                gates.answer(gate, inputs)
                self.assertEqual(inputs, told)

    def test_what_is_refused_is_not_changed(self):
        for gate in helper.bad_lists():
            before = list(gate)
            inputs = [T, F, T]
            for asked in (lambda: gates.answer(gate, inputs), lambda: gates.contrary(gate),
                          lambda: gates.classes(gate), lambda: gates.is_in(gate, "sum"),
                          lambda: gates.witness(gate, "sum")):
                self.assertRaises(NoGate, asked)
            self.assertEqual(gate, before)
            self.assertEqual(inputs, [T, F, T])

    def test_told_lists_are_the_askers_own(self):
        for gate in helper.all_gates():
            contrary = gates.contrary(gate)
            self.assertIsNot(contrary, gate)
            self.assertIsNot(contrary, gates.contrary(gate))
            self.assertIsNot(gates.classes(gate), gates.classes(gate))

    def test_a_told_list_may_be_changed(self):
        for gate in helper.all_gates():
            before = list(gate)
            first = self.ask_all(gate)
            kept = (list(first[1]), list(first[3]))
            first[1].reverse()
            first[1].append(True)
            first[3].insert(0, "another")
            first[3].pop()
            self.assertEqual(gate, before)
            again = self.ask_all(gate)
            self.assertEqual((again[1], again[3]), kept)
            first[1].clear()
            first[3].clear()
            self.assertEqual(self.ask_all(list(gate)), again)

    def test_what_was_handed_in_may_be_changed_later(self):
        for asked in helper.all_gates():
            gate = list(asked)
            first = self.ask_all(gate)
            for place in range(len(gate)):
                gate[place] = not gate[place]
            self.assertEqual(first, self.ask_all(asked))
            self.assertEqual(self.ask_all(gate), self.ask_all(list(gate)))
            self.assertEqual(gates.contrary(gate), [not truth for truth in first[1]])
            gate.append(True)
            self.assertRaises(NoGate, gates.classes, gate)


if __name__ == "__main__":
    unittest.main()
