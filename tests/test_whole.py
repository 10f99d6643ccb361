"""What the document promises over the whole program: point 1, and the end of point 2."""

import unittest
from copy import deepcopy

import helper
from gatewhole import formulas, gates, making, notes
from gatewhole.errors import GateError, NoGate
from helper import F, SOME_GATES, T, g, x

# Each function that is handed gates, with what else it is handed: right first, then wrong in each way.
ASKED = [
    (formulas.reckoned, [(g(0, x(0)), [T]), (x(0), []), (x(0), [T] * 4), (x(1), [T]), (g(9, x(0)), [F]),
                         (g(-1, x(0)), [F]), (g(0), [F]), (g(1, x(0)), [F, T])]),
    (formulas.table_of, [(g(0, x(0)), 1), (x(0), 0), (x(0), 4), (x(0), -1), (x(1), 1), (g(9, x(0)), 2), (g(0), 3)]),
    (formulas.put, [(g(0, x(0)), [x(2)]), (x(0), []), (x(0), [x(0)] * 4), (x(1), [x(0)]), (x(0), [x(3)]),
                    (g(9, x(0)), [x(0)]), (x(0), [g(0)])]),
    (making.bars, [()]),
    (making.makable, [()]),
    (making.made, [([F, T, F, T],), ([T, T, T, T],), ([],), ([F] * 3,), ([T] * 5,), ([T] * 20,)]),
    (notes.shown, [(g(0, x(0)), 1), (x(0), 0), (x(0), 4), (x(0), -1), (x(1), 1), (g(9, x(0)), 2), (g(0), 3)]),
    (notes.read, [("g0(x)", 1), ("x", 0), ("x", 4), ("", 1), ("w", 2), ("g9(x)", 3), (" x", 3), ("", -1)]),
]
GOOD_GATES = [[[T, F]], SOME_GATES[:2], SOME_GATES, [[T, T], [T, T, T, F], [F, F, F, T, F, T, T, T]]]


def told_by(function, handed, rest):
    """What is told, or the refusal's class."""
    try:
        return function(handed, *rest)
    except GateError as error:
        return error.__class__


def lists_in(value):
    if isinstance(value, list):
        return [value] + [one for part in value for one in lists_in(part)]
    if isinstance(value, tuple):
        return [one for part in value for one in lists_in(part)]
    return []


class Gates(unittest.TestCase):
    def test_no_gate_goes_ahead_of_all_else(self):
        for function, rests in ASKED:
            for rest in rests:
                for wrong in helper.wrong_gates():
                    with self.assertRaises(NoGate, msg=(function, wrong, rest)):
                        function(wrong, *rest)

    def test_one_to_five_gates_are_taken(self):
        for many in range(1, 6):
            for gate in ([T, F], [T, T, T, F], [F, F, F, T, F, T, T, T]):
                handed = [[T, F]] + [list(gate) for place in range(many - 1)]
                for function, rests in ASKED:
                    self.assertIsNot(told_by(function, handed, rests[0]), NoGate)


class OwnLists(unittest.TestCase):
    def test_what_is_handed_in_is_not_changed(self):
        for handed in GOOD_GATES + helper.wrong_gates()[::9]:
            for function, rests in ASKED:
                for rest in rests:
                    before = deepcopy((handed, rest))
                    told_by(function, handed, rest)
                    self.assertEqual((handed, rest), before, function)

    def test_no_list_that_is_told_is_handed_in_or_told_twice(self):
        for handed in GOOD_GATES:
            for function, rests in ASKED:
                for rest in rests:
                    first = told_by(function, handed, rest)
                    second = told_by(function, handed, rest)
                    told = lists_in(first) + lists_in(second)
                    given = lists_in(handed) + lists_in(rest)
                    self.assertEqual(len({id(one) for one in told}), len(told), function)
                    self.assertFalse({id(one) for one in told} & {id(one) for one in given}, function)

    def test_a_told_list_may_be_changed(self):
        for handed in GOOD_GATES:
            for function, rests in ASKED:
                for rest in rests:
                    before = deepcopy(handed)
                    told = told_by(function, handed, rest)
                    kept = deepcopy(told)
                    for one in lists_in(told):
                        one.reverse()
                        one.append("another")
                        one.pop(0)
                    self.assertEqual(told_by(function, handed, rest), kept, function)
                    for one in lists_in(told):
                        one.clear()
                    self.assertEqual(told_by(function, handed, rest), kept, function)
                    self.assertEqual(handed, before, function)

    def test_each_table_that_is_told_may_be_changed_alone(self):
        for formula in (x(0), x(1), g(0, x(0))):
            told = formulas.table_of(SOME_GATES, formula, 2)
            told.append(T)
            self.assertEqual(formulas.table_of(SOME_GATES, formula, 2), helper.table(SOME_GATES, formula, 2))
        for handed in GOOD_GATES:
            kept = making.makable(handed)
            for place in range(len(kept)):
                told = making.makable(handed)
                told[place].clear()
                self.assertEqual(told[:place] + told[place + 1:], kept[:place] + kept[place + 1:])
                self.assertEqual(making.makable(handed), kept)

    def test_what_was_handed_in_may_be_changed_later(self):
        for good in GOOD_GATES:
            for function, rests in ASKED:
                for rest in rests:
                    handed = deepcopy(good)
                    given = deepcopy(rest)
                    told = told_by(function, handed, given)
                    kept = deepcopy(told)
                    for gate in handed:
                        gate[:] = [not truth for truth in gate]
                    changed = deepcopy(handed)
                    self.assertEqual(told_by(function, handed, rest), told_by(function, changed, rest), function)
                    for one in lists_in(given):
                        one.clear()
                    handed.clear()
                    self.assertEqual(told, kept, function)
                    self.assertIs(told_by(function, handed, rest), NoGate)
                    self.assertEqual(told_by(function, good, rest), kept, function)

    def test_one_list_handed_in_twice_is_taken_as_two(self):
        gate = [T, T, T, F]
        self.assertEqual(making.makable([gate, gate]), making.makable([list(gate), list(gate)]))
        self.assertEqual(formulas.table_of([gate, gate], g(1, x(0), g(0, x(1), x(1))), 2), [T, F, T, T])
        self.assertEqual(gate, [T, T, T, F])


class Kinds(unittest.TestCase):
    def test_truths_told_are_true_or_false_and_numbers_are_whole(self):
        def plain(value):
            if isinstance(value, (list, tuple)):
                return all(plain(part) for part in value)
            return value is T or value is F or type(value) in (int, str)

        for handed in GOOD_GATES:
            for function, rests in ASKED:
                told = told_by(function, handed, rests[0])
                self.assertTrue(plain(told), (function, told))

    def test_a_told_table_can_be_asked_as_a_gate(self):
        for handed in GOOD_GATES:
            for table in making.makable(handed):
                self.assertEqual(formulas.table_of([table], g(0, x(0), x(1)), 2), table)
                self.assertEqual(gates.contrary(gates.contrary(table)), table)


if __name__ == "__main__":
    unittest.main()
