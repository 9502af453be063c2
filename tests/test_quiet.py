"""Point 24: quiet walls."""

import unittest

from roundsalone.nets import stars, table_of
from roundsalone.parts import part_table, parts
from roundsalone.quiet import quiet_ones
from tests.brute import blocks_of, chance_tables, crossed_span, in_order, minimal, one_block_tables, span
from tests.papers import blocks_grown, five, grown_small_ones, lined, small_ones, table_of_net, three, wheel


def quiet_by_words(table):
    """The walls, not of all names, without whose names the others are one block."""
    names, evens, told = table[0], span(table), []
    for wall in minimal(crossed_span(table)):
        others = [name for name in names if name not in wall]
        if others and len(blocks_of(others, {even for even in evens if not even & wall})) == 1:
            told.append(wall)
    return in_order(told)


def whole_tables(table):
    """The tables of the whole parts of a table that is one block."""
    return [part_table(table, share) for kind, share in parts(table) if kind == "whole"]


def counts(table):
    """In how many quiet walls each name stands."""
    quiet = quiet_ones(table)
    return [sum(name in wall for wall in quiet) for name in table[0]]


class Quiet(unittest.TestCase):

    def test_one_name(self):
        self.assertEqual(quiet_ones((["a"], [])), [])
        self.assertEqual(quiet_ones((["a"], [["a"]])), [])

    def test_two_names(self):
        self.assertEqual(quiet_ones((["a", "b"], [["a", "b"]])), [])

    def test_rings_and_bundles(self):
        self.assertEqual(quiet_ones((["a", "b", "c"], [["a", "b", "c"]])), [["a", "b"], ["a", "c"], ["b", "c"]])
        self.assertEqual(quiet_ones((["a", "b", "c"], [["a", "b"], ["b", "c"]])), [])
        # Of a longer ring two ties or more are left, each a block alone.
        self.assertEqual(quiet_ones((["a", "b", "c", "d"], [["a", "b", "c", "d"]])), [])

    def test_the_stars_of_a_wheel(self):
        self.assertEqual(quiet_ones(table_of(wheel(3))), [["a", "b", "e"], ["a", "c", "d"], ["b", "c", "f"],
                                                          ["d", "e", "f"]])

    def test_by_the_words(self):
        for table in one_block_tables(chance_tables(41, 150, 8)):
            self.assertEqual(quiet_ones(table), quiet_by_words(table), table)

    def test_by_the_words_for_nets(self):
        for net in blocks_grown(42, 40, 9) + [five(), three(), wheel(4)]:
            table = table_of_net(net)
            self.assertEqual(quiet_ones(table), quiet_by_words(table), net)

    def test_by_the_words_for_tables_of_no_net(self):
        for table in small_ones().values():
            self.assertEqual(quiet_ones(table), quiet_by_words(table), table)
        for table in one_block_tables(grown_small_ones(43, 12)):
            self.assertEqual(quiet_ones(table), quiet_by_words(table), table)

    def test_by_other_rows_the_same(self):
        table = (["a", "b", "c", "d", "e"], [["a", "b", "e"], ["c", "d", "e"]])
        other = (["a", "b", "c", "d", "e"], [["a", "b", "c", "d"], [], ["c", "d", "e"], ["a", "b", "e"]])
        self.assertEqual(quiet_ones(table), quiet_ones(other))

    def test_of_a_net_s_whole_part_each_name_stands_in_two(self):
        tables = [whole for net in blocks_grown(44, 40, 12) for whole in whole_tables(table_of_net(net))]
        self.assertGreater(len(tables), 10)
        for table in tables:
            self.assertEqual(set(counts(table)), {2}, table)

    def test_of_a_net_that_is_a_whole_part_they_are_the_stars(self):
        prism = lined(["12", "23", "13", "45", "56", "46", "14", "25", "36"])
        for net in (five(), three(), wheel(3), wheel(4), wheel(5), wheel(6), prism):
            self.assertEqual(sorted(quiet_ones(table_of(net))), stars(net))

    def test_of_a_whole_part_of_no_net_some_name_stands_in_three(self):
        tables = list(small_ones().values())
        for table in tables:
            self.assertEqual([kind for kind, share in parts(table)], ["whole"])
            self.assertGreaterEqual(min(counts(table)), 2, table)
            self.assertGreaterEqual(max(counts(table)), 3, table)

    def test_of_any_whole_part_each_name_stands_in_two_or_more(self):
        for table in one_block_tables(grown_small_ones(45, 15)):
            for whole in whole_tables(table):
                self.assertGreaterEqual(min(counts(whole)), 2, whole)


if __name__ == "__main__":
    unittest.main()
