"""Points 9 and 10: even sets, rounds, walls, ranks."""

import itertools
import unittest

from roundsalone.houses import even_sets, rank, rounds, walls
from roundsalone.spans import steps
from tests.brute import (LETTERS, chance_tables, crossed_span, every_row, in_order, minimal, other_rows, rank_of,
                         small_tables, span)

TRIANGLES = (["a", "b", "c", "d", "e"], [["a", "b", "e"], ["c", "d", "e"]])


def all_tables():
    return itertools.chain(small_tables(), chance_tables(5, 80, 7))


class Houses(unittest.TestCase):

    def test_written_ones(self):
        self.assertEqual(even_sets(TRIANGLES), [[], ["a", "b", "e"], ["c", "d", "e"], ["a", "b", "c", "d"]])
        self.assertEqual(rounds(TRIANGLES), [["a", "b", "e"], ["c", "d", "e"], ["a", "b", "c", "d"]])
        self.assertEqual(walls(TRIANGLES), [["a", "b"], ["c", "d"], ["a", "c", "e"], ["a", "d", "e"], ["b", "c", "e"],
                                            ["b", "d", "e"]])

    def test_no_names_and_no_rows(self):
        self.assertEqual(even_sets(([], [])), [[]])
        self.assertEqual(rounds(([], [])), [])
        self.assertEqual(walls(([], [])), [])
        self.assertEqual(even_sets((["a", "b"], [])), [[]])
        self.assertEqual(rounds((["a", "b"], [])), [])
        self.assertEqual(walls((["a", "b"], [])), [["a"], ["b"]])
        self.assertEqual(rounds((["a", "b"], [["a"], ["b"]])), [["a"], ["b"]])
        self.assertEqual(walls((["a", "b"], [["a"], ["b"]])), [])

    def test_an_even_set_that_is_no_round(self):
        table = (["a", "b", "c", "d"], [["a", "b"], ["c", "d"]])
        self.assertEqual(even_sets(table), [[], ["a", "b"], ["c", "d"], ["a", "b", "c", "d"]])
        self.assertEqual(rounds(table), [["a", "b"], ["c", "d"]])

    def test_even_sets_against_the_words(self):
        for table in all_tables():
            self.assertEqual(even_sets(table), in_order(span(table)), table)

    def test_rounds_against_the_words(self):
        for table in all_tables():
            self.assertEqual(rounds(table), in_order(minimal(span(table))), table)

    def test_walls_against_the_words(self):
        for table in all_tables():
            self.assertEqual(walls(table), in_order(minimal(crossed_span(table))), table)

    def test_eight_steps(self):
        names = list(LETTERS[:12])
        table = (names, [[names[at], names[8 + at % 4]] if at < 4 else names[at:at + 5] for at in range(8)])
        self.assertEqual(even_sets(table), in_order(span(table)))
        self.assertEqual(len(even_sets(table)), 256)
        self.assertEqual(rounds(table), in_order(minimal(span(table))))

    def test_they_hang_on_the_span_alone(self):
        for at, table in enumerate(all_tables()):
            other = other_rows(table, at)
            self.assertEqual(even_sets(other), even_sets(table), table)
            self.assertEqual(rounds(other), rounds(table), table)
            self.assertEqual(walls(other), walls(table), table)


class Ranks(unittest.TestCase):

    def test_written_ones(self):
        for names, told in (([], 0), (["a"], 1), (["a", "b"], 2), (["a", "b", "e"], 2), (["a", "b", "c"], 3),
                            (["a", "b", "c", "d"], 3), (["a", "b", "c", "d", "e"], 3), (["c", "d", "e"], 2)):
            self.assertEqual(rank(TRIANGLES, names), told, names)
        self.assertEqual(rank((["a", "b"], [["a"]]), ["a"]), 0)
        self.assertEqual(rank((["a", "b"], [["a"]]), ["a", "b"]), 1)
        self.assertEqual(rank(([], []), []), 0)

    def test_small_tables_against_the_words(self):
        for table in small_tables():
            for names in every_row(table[0]):
                told = rank(table, names)
                self.assertIs(isinstance(told, bool), False)
                self.assertEqual(told, rank_of(table, names), (table, names))

    def test_greater_tables_against_the_words(self):
        for table in chance_tables(6, 25, 6):
            for names in every_row(table[0]):
                self.assertEqual(rank(table, names), rank_of(table, names), (table, names))

    def test_of_all_names_it_is_names_less_steps(self):
        for table in all_tables():
            self.assertEqual(rank(table, list(table[0])), len(table[0]) - len(steps(table)), table)

    def test_it_hangs_on_the_span_alone(self):
        for at, table in enumerate(chance_tables(7, 20, 6)):
            for names in every_row(table[0]):
                self.assertEqual(rank(other_rows(table, at), names), rank(table, names), (table, names))


if __name__ == "__main__":
    unittest.main()
