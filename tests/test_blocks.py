"""Points 17 and 18: blocks, their tables, partings, crossings."""

import itertools
import unittest

from roundsalone.blocks import block_table, blocks, crosses, is_parting
from roundsalone.nets import table_of
from roundsalone.spans import steps
from tests.brute import (LETTERS, blocks_of, chance_nets, chance_tables, every_row, minimal, one_block_tables,
                         other_rows, rank_of, small_tables, span, within_block)

TRIANGLES = (["a", "b", "c", "d", "e"], [["a", "b", "e"], ["c", "d", "e"]])
MIXED = (["a", "b", "c", "d", "e", "f"], [["a"], ["b", "c"], ["c", "e", "f"]])


def all_tables():
    nets = itertools.chain(chance_nets(22, 60, 7))
    return itertools.chain(small_tables(), chance_tables(23, 80, 7), [table_of(net) for net in nets])


def few_tables():
    return [TRIANGLES, MIXED, ([], []), (["a"], []), (["a"], [["a"]]), *chance_tables(24, 40, 6)]


class Blocks(unittest.TestCase):

    def test_written_ones(self):
        self.assertEqual(blocks(TRIANGLES), [["a", "b", "c", "d", "e"]])
        self.assertEqual(blocks(MIXED), [["a"], ["b", "c", "e", "f"], ["d"]])
        self.assertEqual(blocks((["a", "b", "c", "d"], [["a", "d"], ["b", "c"]])), [["a", "d"], ["b", "c"]])
        self.assertEqual(blocks((["a", "b", "c"], [["a", "c"], ["b"]])), [["a", "c"], ["b"]])

    def test_no_names_and_no_rows(self):
        self.assertEqual(blocks(([], [])), [])
        self.assertEqual(blocks(([], [[], []])), [])
        self.assertEqual(blocks((["a", "b", "c"], [])), [["a"], ["b"], ["c"]])
        self.assertEqual(blocks((["a"], [["a"]])), [["a"]])
        self.assertEqual(blocks((["a", "b"], [["a"], ["b"], ["a", "b"]])), [["a"], ["b"]])

    def test_against_the_words(self):
        for table in all_tables():
            told = blocks(table)
            found = minimal(span(table))
            self.assertEqual(sorted(name for block in told for name in block), table[0], table)
            self.assertEqual(told, sorted(told), table)
            for block in told:
                self.assertEqual(block, sorted(block), table)
            home = {name: at for at, block in enumerate(told) for name in block}
            for one, other in itertools.combinations(table[0], 2):
                together = any({one, other} <= row for row in found)
                self.assertIs(home[one] == home[other], together, (table, one, other))

    def test_they_hang_on_the_span_alone(self):
        for at, table in enumerate(all_tables()):
            self.assertEqual(blocks(other_rows(table, at)), blocks(table), table)

    def test_twelve_names(self):
        names = list(LETTERS[:12])
        table = (names, [names[:4], names[2:6], names[6:8], [names[8]], names[9:12]])
        self.assertEqual(blocks(table), [names[:6], names[6:8], names[8:9], names[9:12]])


class TablesOfBlocks(unittest.TestCase):

    def test_written_ones(self):
        self.assertEqual(block_table(MIXED, ["a"]), (["a"], [["a"]]))
        self.assertEqual(block_table(MIXED, ["d"]), (["d"], []))
        self.assertEqual(block_table(MIXED, ["b", "c", "e", "f"]), (["b", "c", "e", "f"], [["b", "e", "f"],
                                                                                          ["c", "e", "f"]]))

    def test_against_the_words(self):
        for table in all_tables():
            evens = span(table)
            for block in blocks_of(table[0], evens):
                told = block_table(table, block)
                self.assertIsInstance(told, tuple)
                self.assertEqual(told[0], block, table)
                self.assertEqual(span(told), within_block(evens, block), (table, block))
                self.assertEqual(told[1], steps(told), (table, block))
                self.assertEqual(blocks(told), [block], (table, block))


class Partings(unittest.TestCase):

    def test_written_ones(self):
        for row in (["a", "b"], ["c", "d"], ["a", "b", "e"], ["c", "d", "e"]):
            self.assertIs(is_parting(TRIANGLES, row), True, row)
        for row in ([], ["a"], ["b", "c"], ["a", "c", "d", "e"], ["a", "c"], ["b", "c", "d", "e"], list("abcde")):
            self.assertIs(is_parting(TRIANGLES, row), False, row)

    def test_rings_and_bundles_are_parted_by_each_row_of_two_names_or_more(self):
        for many in range(1, 8):
            names = list(LETTERS[:many])
            for rows in ([names], [[one, other] for one, other in zip(names, names[1:])]):
                for row in every_row(names):
                    parted = len(row) >= 2 and many - len(row) >= 2
                    self.assertIs(is_parting((names, rows), row), parted, (rows, row))

    def test_against_the_words(self):
        for names, rows in one_block_tables(few_tables()):
            table = (names, steps((names, rows)))
            for row in every_row(names):
                rest = [name for name in names if name not in row]
                told = len(row) >= 2 and len(rest) >= 2
                if told:
                    told = rank_of(table, row) + rank_of(table, rest) == rank_of(table, names) + 1
                self.assertIs(is_parting(table, row), told, (table, row))

    def test_they_hang_on_the_span_alone(self):
        for at, table in enumerate(one_block_tables(few_tables())):
            for row in every_row(table[0]):
                self.assertIs(is_parting(other_rows(table, at), row), is_parting(table, row), (table, row))


class Crossings(unittest.TestCase):

    def test_written_ones(self):
        self.assertIs(crosses(TRIANGLES, ["a", "b", "e"], ["a", "b"]), True)
        self.assertIs(crosses(TRIANGLES, ["a", "b", "e"], ["c", "d"]), False)
        self.assertIs(crosses(TRIANGLES, ["a", "b", "e"], ["a", "b", "e"]), False)
        self.assertIs(crosses(TRIANGLES, ["a", "b", "c", "d"], ["a", "b", "e"]), True)
        self.assertIs(crosses(TRIANGLES, [], ["a", "b"]), False)
        self.assertIs(crosses(TRIANGLES, ["a", "b", "e"], []), False)
        self.assertIs(crosses((["a"], [["a"]]), ["a"], ["a"]), False)

    def test_against_the_words(self):
        for table in few_tables():
            evens = span(table)
            for even in evens:
                for row in every_row(table[0]):
                    self.assertIs(crosses(table, sorted(even), row), even & frozenset(row) not in evens,
                                  (table, even, row))


if __name__ == "__main__":
    unittest.main()
