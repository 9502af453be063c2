"""Point 25: tables read."""

import itertools
import unittest

from roundsalone.nets import is_net, stars, table_of
from roundsalone.reading import read
from roundsalone.spans import alike, crossed
from tests.brute import chance_nets, chance_tables, every_row, grown_nets, other_rows, small_tables
from tests.papers import (blocks_grown, bounded_nets, evens_of_table, five, grown_small_ones, is_net_of, keeps_bounds,
                          lined, small_ones, table_of_net, tables_at_the_bounds, three, wheel)


class Reading(unittest.TestCase):

    def assert_read(self, table):
        net = read(table)
        self.assertTrue(is_net_of(table[0], evens_of_table(table), net), (table, net))
        self.assertTrue(is_net(net), (table, net))
        self.assertTrue(alike(table_of(net), table))

    def test_the_table_without_names(self):
        self.assertEqual(read(([], [])), [])
        self.assertEqual(read(([], [[], []])), [])

    def test_one_name(self):
        (tie, one, other), = read((["a"], [["a"]]))
        self.assertEqual((tie, one), ("a", other))
        (tie, one, other), = read((["a"], [[], []]))
        self.assertNotEqual(one, other)

    def test_rings_and_bundles_of_many_ties(self):
        for many in range(2, 10):
            names = list("abcdefghi"[:many])
            self.assert_read((names, [names]))
            self.assert_read((names, [names[at:at + 2] for at in range(many - 1)]))

    def test_all_tables_of_few_names_are_those_of_nets(self):
        for table in small_tables():
            self.assert_read(table)
        for rows in itertools.combinations(every_row(list("abcde"))[1:], 2):
            self.assert_read((list("abcde"), list(rows)))
        for table in chance_tables(51, 60, 6):
            self.assert_read(table)

    def test_tables_of_nets(self):
        for net in bounded_nets(chance_nets(52, 80, 12)):
            self.assert_read(table_of_net(net))

    def test_tables_of_nets_whose_parts_lie_beside_one_another(self):
        for net in bounded_nets(grown_nets(53, 60, 12)) + blocks_grown(54, 60, 12):
            self.assert_read(table_of_net(net))

    def test_by_other_rows(self):
        for seed, net in enumerate(bounded_nets(grown_nets(55, 30, 11))):
            table = table_of_net(net)
            if table[1]:
                self.assert_read(other_rows(table, seed))

    def test_other_rows_are_read_as_the_same_net(self):
        for seed, net in enumerate(blocks_grown(56, 20, 10)):
            table = table_of_net(net)
            self.assertEqual(read(other_rows(table, seed)), read(table))

    def test_a_whole_part_is_read_as_the_net_itself(self):
        for net in (five(), three(), wheel(3), wheel(4), wheel(6)):
            self.assertEqual(stars(read(table_of(net))), stars(net))

    def test_two_wholes_put_together_either_way_round(self):
        # Two wheels of three points share two of these and not the tie between them.
        inner = [("1", "3"), ("1", "4"), ("2", "3"), ("2", "4"), ("3", "4")]
        for turn in ({"1": "1", "2": "2"}, {"1": "2", "2": "1"}):
            outer = [[turn.get(end, end) for end in pair] for pair in ("15", "16", "25", "26", "56")]
            self.assert_read(table_of_net(lined(inner + outer)))

    def test_at_the_bounds(self):
        dense = lined([*itertools.combinations("12345", 2), "12", "34"])
        loose = lined(["12", "23", "34", "45", "56", "67", "78", "89", "19", "14", "47", "17"])
        for net in (dense, loose, wheel(6), lined([*(str(at) * 2 for at in range(8)), "12", "34", "56", "78"])):
            self.assertTrue(is_net(net))
            self.assert_read(table_of_net(net))
            self.assertEqual(len(net), 12)

    def test_names_as_they_are_sorted(self):
        net = [("10", "p", "q"), ("9", "p", "r"), ("a", "q", "r"), ("a1", "p", "s"), ("b", "q", "s"), ("zz", "r", "s")]
        self.assert_read(table_of_net(net))

    def test_crossed_tables_of_nets_on_a_ball(self):
        for net in (wheel(3), wheel(5), wheel(6), lined(["12", "12", "23", "33", "45"])):
            self.assert_read(crossed(table_of(net)))

    def test_the_four_small_tables(self):
        for table in small_ones().values():
            self.assertIsNone(read(table))
            self.assertIsNone(read((table[0], table[1] + [[]] + table[1][:1])))

    def test_tables_of_which_a_small_one_is_left(self):
        for table in grown_small_ones(57, 60):
            self.assertIsNone(read(table), table)

    def test_small_ones_beside_a_net(self):
        for table in small_ones().values():
            self.assertIsNone(read((table[0] + ["x", "y"], table[1] + [["x", "y"]])))
            self.assertIsNone(read((["0"] + table[0], [["0"]] + table[1])))

    def test_the_crossed_ones_of_five_and_three_are_read(self):
        for net in (five(), three()):
            self.assert_read(crossed(crossed(table_of(net))))
            self.assertIsNone(read(crossed(table_of(net))))

    def test_what_is_read_is_that_of_the_table_whatever_the_table(self):
        told = []
        for table in tables_at_the_bounds(58, 80):
            self.assertTrue(keeps_bounds(table))
            told.append(read(table) is None)
            if not told[-1]:
                self.assert_read(table)
        self.assertEqual(set(told), {True, False})

    def test_the_same_is_told_again(self):
        for table in tables_at_the_bounds(59, 10):
            self.assertEqual(read(table), read(table))


if __name__ == "__main__":
    unittest.main()
