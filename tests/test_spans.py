"""Points 6, 7 and 8: tables, steps, within the span or without, the crossed table."""

import itertools
import random
import unittest

from roundsalone.spans import alike, crossed, is_table, steps, within
from tests.brute import (LETTERS, chance_row, chance_tables, crossed_span, every_row, other_rows,
                         small_tables, span, sum_of)

TWELVE = list(LETTERS[:12])
THIRTEEN = list(LETTERS[:13])
OTHER_THINGS = (0, 1, -3, True, False, None, "", "a", "a b / a", [], (), [[]], ((),), [()], ([],), [[], []], ((), ()),
                ([], ()), ((), []), ([], [], []), [([], [])], (([], []),), (0, 1), (None, None), (True, []), ([], True),
                ("", []), ([], ""), ([], None), (0, []), ([], 0), ("ab", []), (["a"], "a"), (["a"], ["a"]),
                (["a"], [["a"], "a"]), (["a"], [("a",)]), (("a",), [["a"]]), (["a"], (["a"],)),
                [["a"], [["a"]]], (["a"], [["a"]], []), (["a"],), [[[[[[]]]]]], ((((((),),),),),))


def single_rows(names):
    return [[name] for name in names]


class IsTable(unittest.TestCase):

    def test_small_ones(self):
        for table in (([], []), ([], [[]]), ([], [[], []]), (["a"], []), (["a"], [[]]), (["a"], [["a"]]),
                      (["a", "b"], [["a", "b"], ["a", "b"]]), (["0", "a", "abcdef"], [["a"], [], ["0", "abcdef"]])):
            self.assertIs(is_table(table), True, table)

    def test_all_small_ones(self):
        for table in small_tables():
            self.assertIs(is_table(table), True, table)

    def test_twelve_names_and_thirteen(self):
        self.assertIs(is_table((TWELVE, single_rows(TWELVE[:6]))), True)
        self.assertIs(is_table((THIRTEEN, single_rows(THIRTEEN[:6]))), False)

    def test_sixteen_rows_and_seventeen(self):
        self.assertIs(is_table((["a", "b"], [["a"]] * 16)), True)
        self.assertIs(is_table((["a", "b"], [["a"]] * 17)), False)
        self.assertIs(is_table(([], [[] for at in range(16)])), True)
        self.assertIs(is_table(([], [[] for at in range(17)])), False)

    def test_eight_steps_and_nine(self):
        self.assertIs(is_table((TWELVE, single_rows(TWELVE[:8]))), True)
        self.assertIs(is_table((TWELVE, single_rows(TWELVE[:9]))), False)
        self.assertIs(is_table((TWELVE[:9], single_rows(TWELVE[:8]))), True)
        self.assertIs(is_table((TWELVE[:9], single_rows(TWELVE[:9]))), False)

    def test_many_rows_of_few_steps(self):
        pairs = [list(pair) for pair in itertools.combinations(TWELVE[:6], 2)]
        self.assertEqual(len(pairs), 15)
        self.assertIs(is_table((TWELVE, pairs)), True)

    def test_eight_names_beyond_the_steps_and_nine(self):
        self.assertIs(is_table((TWELVE, single_rows(TWELVE[:4]))), True)
        self.assertIs(is_table((TWELVE, single_rows(TWELVE[:3]))), False)
        self.assertIs(is_table((TWELVE, single_rows(TWELVE[:3]) * 2)), False)
        self.assertIs(is_table((TWELVE[:8], [])), True)
        self.assertIs(is_table((TWELVE[:9], [])), False)
        self.assertIs(is_table((TWELVE[:9], [[]])), False)

    def test_a_list_in_the_tuples_place(self):
        self.assertIs(is_table([["a"], [["a"]]]), False)
        self.assertIs(is_table([[], []]), False)

    def test_a_part_more_or_fewer(self):
        self.assertIs(is_table((["a"], [["a"]], [])), False)
        self.assertIs(is_table((["a"], [["a"]], None)), False)
        self.assertIs(is_table((["a"],)), False)
        self.assertIs(is_table(()), False)

    def test_names_or_a_row_that_is_no_row(self):
        for bad in (["b", "a"], ["a", "a"], ["a", "A"], [""], ["abcdefg"], ["a", ["b"]], ("a",), "a", 1, None, True):
            self.assertIs(is_table((bad, [])), False, bad)
            self.assertIs(is_table((["a", "b"], [bad])), False, bad)
            self.assertIs(is_table((["a", "b"], [["a"], bad])), False, bad)

    def test_a_row_with_a_name_that_the_table_has_not(self):
        self.assertIs(is_table((["a", "b"], [["a", "c"]])), False)
        self.assertIs(is_table((["a", "b"], [["a", "b"], ["c"]])), False)
        self.assertIs(is_table(([], [["a"]])), False)

    def test_other_things(self):
        for thing in OTHER_THINGS:
            self.assertIs(is_table(thing), False, thing)

    def test_a_thing_of_many(self):
        names = sorted(one + other for one in LETTERS for other in LETTERS)
        self.assertIs(is_table((names[:390], [])), False)
        self.assertIs(is_table((["a"], [["a"]] * 190)), False)


def all_tables():
    yield from small_tables()
    yield from chance_tables(1, 300, 9)


class Steps(unittest.TestCase):

    def test_written_ones(self):
        for names, rows, told in (
            ([], [], []),
            (["a"], [[]], []),
            (["a", "b", "c"], [["a", "b"], ["b", "c"]], [["a", "c"], ["b", "c"]]),
            (["a", "b", "c"], [["b", "c"], ["a", "c"], ["a", "b"]], [["a", "c"], ["b", "c"]]),
            (["a", "b", "c"], [["a", "b", "c"], ["b"], ["b"]], [["a", "c"], ["b"]]),
            (["10", "9"], [["9"], ["10", "9"]], [["10"], ["9"]]),
        ):
            self.assertEqual(steps((names, rows)), told)

    def test_against_the_words(self):
        for table in all_tables():
            told = steps(table)
            leads = [row[0] for row in told]
            self.assertEqual(leads, sorted(set(leads)), table)
            for row in told:
                self.assertEqual(row, sorted(set(row)), table)
                self.assertEqual([name for name in row if name in leads], row[:1], table)
            self.assertEqual(span((table[0], told)), span(table), table)

    def test_they_hang_on_the_span_alone(self):
        for at, table in enumerate(all_tables()):
            self.assertEqual(steps(other_rows(table, at)), steps(table), table)

    def test_at_the_bounds(self):
        table = (TWELVE, [TWELVE[at:at + 5] for at in range(8)] * 2)
        told = steps(table)
        self.assertEqual([row[0] for row in told], TWELVE[:8])
        self.assertEqual(span((TWELVE, told)), span(table))


class Within(unittest.TestCase):

    def look(self, table, row):
        told = within(table, row)
        self.assertIsInstance(told, tuple)
        kind, found = told
        if frozenset(row) in span(table):
            self.assertEqual(kind, "within", (table, row))
            self.assertEqual(found, sorted(set(found)), (table, row))
            self.assertTrue(all(0 <= place < len(table[1]) for place in found), (table, row))
            self.assertEqual(sum_of([table[1][place] for place in found]), frozenset(row), (table, row))
            return
        self.assertEqual(kind, "without", (table, row))
        self.assertEqual(found, [name for name in table[0] if name in found], (table, row))
        for other in table[1]:
            self.assertEqual(len(set(found) & set(other)) % 2, 0, (table, row))
        self.assertEqual(len(set(found) & set(row)) % 2, 1, (table, row))

    def test_small_tables(self):
        for table in small_tables():
            for row in every_row(table[0]):
                self.look(table, row)

    def test_greater_tables(self):
        for table in chance_tables(2, 60, 7):
            for row in every_row(table[0]):
                self.look(table, row)

    def test_sixteen_rows(self):
        chance = random.Random(3)
        for turn in range(20):
            table = (TWELVE, [chance_row(chance, TWELVE[:9], 0.4) for at in range(8)] * 2)
            for other in range(20):
                self.look(table, chance_row(chance, TWELVE, 0.4))
                self.look(table, sorted(sum_of(chance.sample(table[1], 4))))

    def test_the_empty_row(self):
        for table in (([], []), (["a"], []), (["a"], [["a"]]), (["a"], [[], []])):
            self.assertEqual(within(table, [])[0], "within")
            self.look(table, [])

    def test_a_table_without_rows(self):
        self.assertEqual(within((["a", "b"], []), []), ("within", []))
        self.assertEqual(within((["a"], []), ["a"]), ("without", ["a"]))
        self.look((["a", "b"], []), ["a", "b"])


class Crossed(unittest.TestCase):

    def test_written_ones(self):
        self.assertEqual(crossed(([], [])), ([], []))
        self.assertEqual(crossed((["a"], [])), (["a"], [["a"]]))
        self.assertEqual(crossed((["a"], [["a"]])), (["a"], []))
        self.assertEqual(crossed((["a", "b", "c"], [["a", "b", "c"]])), (["a", "b", "c"], [["a", "c"], ["b", "c"]]))

    def test_against_all_rows_of_the_names(self):
        for table in itertools.chain(small_tables(), chance_tables(4, 100, 7)):
            told = crossed(table)
            self.assertIsInstance(told, tuple)
            self.assertEqual(told[0], table[0])
            self.assertEqual(span(told), crossed_span(table), table)

    def test_its_rows_are_its_steps(self):
        for table in all_tables():
            told = crossed(table)
            self.assertEqual(told[1], steps(told), table)

    def test_crossed_twice(self):
        for table in all_tables():
            told = crossed(crossed(table))
            self.assertIs(alike(told, table), True, table)
            self.assertEqual(told, (table[0], steps(table)))

    def test_steps_of_both_are_as_many_as_names(self):
        for table in all_tables():
            self.assertEqual(len(steps(table)) + len(steps(crossed(table))), len(table[0]), table)


class Alike(unittest.TestCase):

    def both_ways(self, one, other, told):
        self.assertIs(alike(one, other), told, (one, other))
        self.assertIs(alike(other, one), told, (one, other))

    def test_the_same_names_and_span(self):
        for at, table in enumerate(all_tables()):
            self.both_ways(table, other_rows(table, at), True)

    def test_other_names(self):
        self.both_ways((["a"], []), (["b"], []), False)
        self.both_ways((["a"], []), (["a", "b"], []), False)
        self.both_ways((["a", "b"], [["a"]]), (["a", "c"], [["a"]]), False)
        self.both_ways(([], []), (["a"], [[]]), False)

    def test_other_spans(self):
        self.both_ways((["a", "b"], [["a"]]), (["a", "b"], [["b"]]), False)
        self.both_ways((["a", "b"], [["a"]]), (["a", "b"], [["a"], ["b"]]), False)
        self.both_ways((["a", "b"], []), (["a", "b"], [["a", "b"]]), False)

    def test_against_the_words(self):
        tables = [table for table in small_tables() if len(table[1]) <= 2]
        for one, other in zip(tables * 3, tables[1:] + tables[7:] + tables[20:]):
            same = one[0] == other[0] and span(one) == span(other)
            self.both_ways(one, other, same)


if __name__ == "__main__":
    unittest.main()
