"""Points 10 and 11 of the document, and the interface under gatewhole/making.py."""

import unittest
from itertools import product

import helper
from gatewhole import making
from gatewhole.errors import NoTable, NotMade
from helper import F, SOME_GATES, T

FIRST = (F, T, F, T)
SECOND = (F, F, T, T)
ALL_TABLES = [tuple(table) for table in helper.gates_of(2)]


def closed(gates):
    """All that comes from the two inputs' tables by the gates, again and again until no more comes."""
    known = {FIRST, SECOND}
    while True:
        more = set()
        for gate in gates:
            for tables in product(sorted(known), repeat=helper.inputs_of(gate)):
                more.add(tuple(gate[helper.row(inputs)] for inputs in zip(*tables)))
        if more <= known or len(known) == 16:
            return sorted(known)
        known |= more


def some_lists():
    return [[list(gate)] for gate in helper.all_gates()] + helper.many_gates(5, 120) + [helper.copied(SOME_GATES)]


def lists_within_classes():
    """Lists of gates of one to three inputs that a class holds, which chance alone seldom brings."""
    lists = []
    for word in helper.WORDS:
        held = [gate for gate in helper.all_gates() if helper.holds(gate, word)]
        for many in (2, 3, 5):
            for start in range(6):
                lists.append(helper.copied(held[start::7][:many]))
    return lists


class Interface(unittest.TestCase):
    def test_names_and_arguments(self):
        told = {"bars": ["gates"], "makable": ["gates"], "made": ["gates", "table"]}
        for name, arguments in told.items():
            with self.subTest(name=name):
                self.assertEqual(helper.arguments_of(getattr(making, name)), arguments)


class Makable(unittest.TestCase):
    def test_written_out(self):
        self.assertEqual(making.makable([[F, T]]), [[F, F, T, T], [F, T, F, T]])
        self.assertEqual(making.makable([[T, F]]), [[F, F, T, T], [F, T, F, T], [T, F, T, F], [T, T, F, F]])
        self.assertEqual(making.makable([[F, F]]), [[F, F, F, F], [F, F, T, T], [F, T, F, T]])
        self.assertEqual(making.makable([[T, T]]), [[F, F, T, T], [F, T, F, T], [T, T, T, T]])
        self.assertEqual(making.makable([[F, F, F, T]]), [[F, F, F, T], [F, F, T, T], [F, T, F, T]])
        self.assertEqual(making.makable([[F, T, T, F]]),
                         [[F, F, F, F], [F, F, T, T], [F, T, F, T], [F, T, T, F]])
        self.assertEqual(making.makable([[F, F, F, T, F, T, T, T]]), [[F, F, T, T], [F, T, F, T]])
        self.assertEqual(making.makable([[T, T, T, F]]), [list(table) for table in product([F, T], repeat=4)])
        self.assertEqual(len(making.makable([[T, F], [F, F, F, T]])), 16)

    def test_all_that_comes_in_order_and_each_once(self):
        for gates in some_lists() + lists_within_classes():
            told = making.makable(gates)
            self.assertIs(type(told), list)
            for table in told:
                self.assertIs(type(table), list)
                self.assertTrue(all(truth is T or truth is F for truth in table))
            self.assertEqual([tuple(table) for table in told], closed(gates), gates)


class Made(unittest.TestCase):
    def table_of_plan(self, gates, plan):
        """The table of the plan's last step, by the sentences of point 10, if it is a plan."""
        self.assertIs(type(plan), list)
        self.assertIn(len(plan), range(1, 17))
        tables = []
        for step in plan:
            self.assertIs(type(step), tuple)
            self.assertIs(type(step[1]), int)
            if step[0] == "in":
                self.assertEqual(len(step), 2)
                self.assertIn(step[1], (0, 1))
                tables.append([FIRST, SECOND][step[1]])
            else:
                self.assertEqual((step[0], len(step)), ("gate", 3))
                self.assertIn(step[1], range(len(gates)))
                self.assertIs(type(step[2]), tuple)
                self.assertEqual(len(step[2]), helper.inputs_of(gates[step[1]]))
                for place in step[2]:
                    self.assertIs(type(place), int)
                    self.assertIn(place, range(len(tables)))
                rows = zip(*[tables[place] for place in step[2]])
                tables.append(tuple(gates[step[1]][helper.row(inputs)] for inputs in rows))
        return tables[-1]

    def holds(self, gates):
        can = closed(gates)
        for table in ALL_TABLES:
            if table in can:
                self.assertEqual(self.table_of_plan(gates, making.made(gates, list(table))), table, gates)
            else:
                with self.assertRaises(NotMade, msg=(gates, table)):
                    making.made(gates, list(table))

    def test_the_inputs_themselves(self):
        for gates in some_lists()[:40]:
            for table in (FIRST, SECOND):
                self.assertEqual(self.table_of_plan(gates, making.made(gates, list(table))), table)

    def test_each_table_by_each_single_gate(self):
        for gate in helper.all_gates():
            self.holds([gate])

    def test_each_table_by_many_lists_of_gates(self):
        for gates in helper.many_gates(6, 60) + [SOME_GATES]:
            self.holds(gates)

    def test_each_table_by_lists_within_a_class(self):
        for gates in lists_within_classes():
            self.holds(gates)

    def test_another_number_of_answers_is_no_table(self):
        for length in [many for many in range(21) if many != 4]:
            for table in ([F] * length, [T] * length, [place % 2 == 1 for place in range(length)]):
                for gates in ([[F, T]], [[T, T, T, F]], SOME_GATES):
                    with self.subTest(gates=gates, table=table), self.assertRaises(NoTable):
                        making.made(gates, table)


class Bars(unittest.TestCase):
    def test_written_out(self):
        self.assertEqual(making.bars([[F, T]]), ["nought", "one", "turn", "rise", "sum"])
        self.assertEqual(making.bars([[T, F]]), ["turn", "sum"])
        self.assertEqual(making.bars([[T, T, T, F]]), [])
        self.assertEqual(making.bars([[F, F, F, T], [F, T, T, T]]), ["nought", "one", "rise"])
        self.assertEqual(making.bars([[F, F, F, T], [F, T, T, F]]), ["nought"])
        self.assertEqual(making.bars([[F, F, F, T], [T, F]]), [])
        self.assertEqual(making.bars([[F, F], [T, T], [F, T, T, F]]), ["sum"])

    def test_the_classes_that_hold_each_gate_in_their_order(self):
        for gates in some_lists() + lists_within_classes() + helper.many_gates(7, 200):
            told = making.bars(gates)
            self.assertIs(type(told), list)
            asked = [word for word in helper.WORDS if all(helper.holds(gate, word) for gate in gates)]
            self.assertEqual(told, asked, gates)

    def test_all_sixteen_tables_just_where_there_are_none(self):
        seen = {True: 0, False: 0}
        for gates in some_lists() + lists_within_classes() + helper.many_gates(8, 200):
            barred = making.bars(gates) != []
            self.assertEqual(len(making.makable(gates)) == 16, not barred, gates)
            seen[barred] += 1
        self.assertTrue(min(seen.values()) > 50, seen)


if __name__ == "__main__":
    unittest.main()
