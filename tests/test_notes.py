"""Point 12 of the document, and the interface under gatewhole/notes.py."""

import re
import unittest

import helper
from gatewhole import notes
from gatewhole.errors import NoFormula, NoInputs, NoNote
from helper import F, SOME_GATES, T, g, x

WRONG_MANY = [0, 4, 5, 9, -1, -2, -3, -9, 10 ** 30, -10 ** 30]
SIGNS = ["\t", "\n"] + [chr(code) for code in range(ord(" "), ord("~") + 1) if chr(code) != "%"]


def text_of(formula):
    """The formula as it is written, by the sentence of point 12."""
    if formula[0] == "in":
        return {0: "x", 1: "y", 2: "z"}[formula[1]]
    return "g" + str(formula[1]) + "(" + " ".join(text_of(part) for part in formula[2]) + ")"


def writes_one(gates, text, many):
    """Whether the text writes a formula: parts are made one sign, from within, until nothing more can be."""
    if "#" in text:
        return False
    text = re.sub("[" + "xyz"[:many] + "]", "#", text)
    before = None
    while text != before:
        before = text
        for number, gate in enumerate(gates):
            text = text.replace(f"g{number}(" + " ".join("#" * helper.inputs_of(gate)) + ")", "#")
    return text == "#"


class Interface(unittest.TestCase):
    def test_names_and_arguments(self):
        told = {"shown": ["gates", "formula", "many"], "read": ["gates", "text", "many"]}
        for name, arguments in told.items():
            with self.subTest(name=name):
                self.assertEqual(helper.arguments_of(getattr(notes, name)), arguments)


class Shown(unittest.TestCase):
    def test_written_out(self):
        self.assertEqual(notes.shown(SOME_GATES, x(0), 1), "x")
        self.assertEqual(notes.shown(SOME_GATES, x(1), 2), "y")
        self.assertEqual(notes.shown(SOME_GATES, x(2), 3), "z")
        self.assertEqual(notes.shown(SOME_GATES, g(1, x(0), g(0, x(1))), 2), "g1(x g0(y))")
        self.assertEqual(notes.shown(SOME_GATES, g(2, g(4, x(2)), x(1), g(3, x(0), x(0))), 3), "g2(g4(z) y g3(x x))")

    def test_many_gates_and_formulas(self):
        for number, gates in enumerate(helper.many_gates(9, 60)):
            for many in (1, 2, 3):
                for formula in helper.some_formulas(number, gates, many):
                    told = notes.shown(gates, formula, many)
                    self.assertIs(type(told), str)
                    self.assertEqual(told, text_of(formula))

    def test_wide_and_deep_formulas(self):
        for many in (1, 2, 3):
            for formula in (helper.deep_formula(SOME_GATES, many, 30), g(0, helper.wide_formula(many, 149))):
                self.assertEqual(notes.shown(SOME_GATES, formula, many), text_of(formula))

    def test_another_number_of_inputs_is_refused_whatever_the_formula(self):
        for many in WRONG_MANY:
            for formula in (x(0), x(9), x(-1), g(0, x(0)), g(9), g(1, x(0)), g(0, g(-1, x(0)))):
                with self.subTest(many=many, formula=formula), self.assertRaises(NoInputs):
                    notes.shown(SOME_GATES, formula, many)

    def test_one_knot_wrong_at_the_top_and_within(self):
        for many in (1, 2, 3):
            for shape in (x(0), g(0, x(0)), g(2, g(3, x(0), g(4, x(0))), g(1, x(0), x(0)), g(0, x(0)))):
                for formula in helper.wrong_formulas(SOME_GATES, shape, many):
                    with self.assertRaises(NoFormula, msg=(formula, many)):
                        notes.shown(SOME_GATES, formula, many)


class Read(unittest.TestCase):
    def test_written_out(self):
        self.assertEqual(notes.read(SOME_GATES, "x", 1), ("in", 0))
        self.assertEqual(notes.read(SOME_GATES, "y", 2), ("in", 1))
        self.assertEqual(notes.read(SOME_GATES, "z", 3), ("in", 2))
        self.assertEqual(notes.read(SOME_GATES, "g1(x g0(y))", 2),
                         ("gate", 1, (("in", 0), ("gate", 0, (("in", 1),)))))
        self.assertEqual(notes.read(SOME_GATES, "g2(g4(z) y g3(x x))", 3), g(2, g(4, x(2)), x(1), g(3, x(0), x(0))))

    def plain(self, formula):
        self.assertIs(type(formula), tuple)
        self.assertIs(type(formula[1]), int)
        if formula[0] == "gate":
            self.assertIs(type(formula[2]), tuple)
            for part in formula[2]:
                self.plain(part)

    def test_what_is_shown_is_read_again(self):
        for number, gates in enumerate(helper.many_gates(10, 60)):
            for many in (1, 2, 3):
                for formula in helper.some_formulas(number, gates, many):
                    told = notes.read(gates, text_of(formula), many)
                    self.assertEqual(told, formula)
                    self.plain(told)
                    self.assertEqual(notes.read(gates, notes.shown(gates, formula, many), many), formula)

    def test_deep_formulas_are_read(self):
        for many in (1, 2, 3):
            for gates in (SOME_GATES, SOME_GATES[:1], SOME_GATES[1:3], SOME_GATES[2:3]):
                formula = helper.deep_formula(gates, many, 31)
                self.assertEqual(text_of(formula).count("("), 30)
                self.assertEqual(notes.read(gates, text_of(formula), many), formula)
        self.assertEqual(notes.read(SOME_GATES, text_of(helper.wide_formula(3, 30)), 3), helper.wide_formula(3, 30))


class NoNotes(unittest.TestCase):
    def refused(self, gates, text, many):
        with self.assertRaises(NoNote, msg=(gates, text, many)):
            notes.read(gates, text, many)

    def judged(self, gates, text, many):
        """Whether the text was read; what it was read as must be written so."""
        if writes_one(gates, text, many):
            self.assertEqual(text_of(notes.read(gates, text, many)), text)
            return True
        self.refused(gates, text, many)
        return False

    def test_written_out(self):
        for text in ("", " ", "\n", "\t", "X", "Y", "w", "a", "0", "g", "G", "g0", "g1", "g0(", "g0()", "g0(x", "g0 x",
                     "g0x)", "0(x)", "g(x)", "gx", "(x)", "()", ")", "(", "x)", "(x", "g0(x))", "g0((x))", "G0(x)",
                     "g0(X)", "g0(x y)", "g1(x)", "g1(x )", "g1( x)", "g1(x  y)", "g1(xy)", "g1(x,y)", "g1(x, y)",
                     "g1(x y )", "g1( x y)", "g1 (x y)", "g 1(x y)", "g1(x y z)", "g1(x y x)", "g1(x\ty)", "g1(x\ny)",
                     "g2(x y)", "g2(x y z x)", "g2(x y z ", "g00(x)", "g01(x y)", "g10(x)", "g1(x g00(y))",
                     "g+0(x)", "g-1(x)", "g0.0(x)", "g5(x)", "g9(x)", "g6(x y)", "g0(g5(x))", "x y", "xx", "xy", "x x",
                     "g0(x)x", "g0(x) ", "g0(x) x", "g0(x)g0(x)", "g0(x)\n", " g0(x)", "\ng0(x)", "\tg0(x)", "x ",
                     " x", "x\n", "\nx", "x\t", "\tx", "g0(x )", "g0( x)", "g0(x\n)", "g0\n(x)", "[x]", "g0[x]", "g0{x}",
                     "in 0", "('in', 0)", "None", "g0(w)", "g1(x w)", "g1(x y))", "g1((x y)", "g1(x g0(y)", "gg0(x)"):
            self.assertFalse(writes_one(SOME_GATES, text, 3), text)
            self.refused(SOME_GATES, text, 3)

    def test_an_input_that_there_isnt(self):
        for text in ("y", "z", "g0(y)", "g0(z)", "g1(x y)", "g1(y x)", "g2(x x z)", "g4(z)", "g3(y x)", "g0(g0(y))"):
            self.refused(SOME_GATES, text, 1)
        for text in ("z", "g0(z)", "g1(x z)", "g1(z x)", "g2(x y z)", "g4(z)", "g3(z x)", "g0(g1(y z))"):
            self.refused(SOME_GATES, text, 2)
            self.assertEqual(text_of(notes.read(SOME_GATES, text, 3)), text)

    def test_a_gate_that_there_isnt(self):
        for many in range(1, 6):
            gates = [[T, F] for place in range(many)]
            for number in range(12):
                for text in (f"g{number}(x)", f"g0(g{number}(x))", f"g{number}(g0(x))"):
                    if number < many:
                        self.assertEqual(text_of(notes.read(gates, text, 1)), text)
                    else:
                        self.refused(gates, text, 1)

    def test_one_sign_put_in_taken_out_or_put_otherwise(self):
        read = 0
        for text, many in (("x", 1), ("z", 3), ("g1(x g0(y))", 2), ("g2(g4(z) y g3(x x))", 3), ("g0(g0(g4(x)))", 1)):
            for place in range(len(text) + 1):
                self.judged(SOME_GATES, text[:place] + text[place + 1:], many)
                for sign in SIGNS:
                    read += self.judged(SOME_GATES, text[:place] + sign + text[place:], many)
                    read += self.judged(SOME_GATES, text[:place] + sign + text[place + 1:], many)
        self.assertGreater(read, 50)

    def test_two_signs_changed_places(self):
        text = "g2(g4(z) y g3(x x))"
        for first in range(len(text)):
            for second in range(first):
                signs = list(text)
                signs[first], signs[second] = signs[second], signs[first]
                self.judged(SOME_GATES, "".join(signs), 3)

    def test_blanks_tabs_and_line_ends(self):
        for text in ("x", "g1(x g0(y))", "g2(g4(z) y g3(x x))"):
            for blank in (" ", "\t", "\n", "  ", " \n", "\n\n"):
                for place in range(len(text) + 1):
                    self.refused(SOME_GATES, text[:place] + blank + text[place:], 3)

    def test_each_end_cut_off(self):
        text = text_of(helper.deep_formula(SOME_GATES, 3, 31))
        for place in range(len(text)):
            self.refused(SOME_GATES, text[:place], 3)
            if place:
                self.judged(SOME_GATES, text[place:], 3)

    def test_long_texts(self):
        for sign in SIGNS:
            if sign != "(":
                self.refused(SOME_GATES, sign * 2000, 3)
        deep = text_of(helper.deep_formula(SOME_GATES, 3, 31))
        for text in (deep.ljust(2000), deep.rjust(2000), deep + ")" * 1000, "g0(" * 30 + "x" + ")" * 1900,
                     "g0(" * 30 + "x" + ")" * 29, "g0(" * 30, "(" * 30, "g0(x " * 30, "g1(x " * 30 + "x" + ")" * 31,
                     "g1(x " * 30 + "x" + ")" * 29, "g1(" + "x " * 990 + "x)", "g" + "0" * 1990 + "(x)",
                     "g0(" * 30 + "x" * 1900, ("x " * 1000)[:-1], "g0(x)" * 30, "g0(x) " * 30):
            self.assertLessEqual(len(text), 2000)
            self.assertLessEqual(text.count("("), 30)
            self.assertFalse(self.judged(SOME_GATES, text, 3), text)
        for text in ("g0(" * 30 + "x" + ")" * 30, "g1(x " * 30 + "x" + ")" * 30, "g2(x z " * 30 + "y" + ")" * 30,
                     "g1(" * 30 + "x" + " y)" * 30):
            self.assertTrue(self.judged(SOME_GATES, text, 3), text)

    def test_no_inputs_goes_ahead(self):
        for many in WRONG_MANY:
            for text in ("", "x", "w", "g0(x)", "g9(x)", "g1(x)", "g0(x", " x", "z", "zz"):
                with self.subTest(many=many, text=text), self.assertRaises(NoInputs):
                    notes.read(SOME_GATES, text, many)


if __name__ == "__main__":
    unittest.main()
