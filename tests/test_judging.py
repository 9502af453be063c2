"""Points 26 and 4: tables judged."""

import unittest
from collections import Counter

from roundsalone.judging import judged
from roundsalone.nets import is_net, table_of
from roundsalone.reading import read
from roundsalone.spans import alike, crossed, is_table
from roundsalone.takings import left
from tests.brute import chance_nets, chance_tables, grown_nets, other_rows
from tests.papers import (bounded_nets, five, grown_small_ones, keeps_bounds, net_stands, nets_off_the_ball,
                          small_ones, stands, table_of_net, tables_at_the_bounds, three)


class Judging(unittest.TestCase):

    def assert_stands(self, table):
        paper = judged(table)
        self.assertTrue(stands(table, paper), (table, paper))
        # A net, or a small table, never both: the net is told just where the table can be read.
        self.assertEqual(paper[0] == "net", read(table) is not None, table)
        if paper[0] == "net":
            self.assertTrue(is_net(paper[1]))
        return paper

    def assert_kind(self, table, kind):
        paper = self.assert_stands(table)
        self.assertEqual(paper[:2], ("small", kind), (table, paper))

    def test_the_table_without_names(self):
        self.assertEqual(judged(([], [])), ("net", []))
        self.assertEqual(judged(([], [[]])), ("net", []))

    def test_the_four_small_tables(self):
        for kind, table in small_ones().items():
            self.assert_kind(table, kind)
            self.assertEqual(judged(table)[2:4], ([], []))

    def test_seven_is_numbered(self):
        word, kind, taken, shrunk, told = judged(small_ones()["seven"])
        self.assertEqual([name for name, number in told], list("abcdefg"))
        self.assertEqual(sorted(number for name, number in told), [1, 2, 3, 4, 5, 6, 7])

    def test_the_crossed_ones_of_the_small_tables(self):
        self.assert_kind(crossed(small_ones()["seven"]), "crossed seven")
        self.assert_kind(crossed(small_ones()["crossed seven"]), "seven")
        for net in (five(), three()):
            self.assertEqual(self.assert_stands(crossed(crossed(table_of(net))))[0], "net")

    def test_names_more_of_one_sort(self):
        for deed in ("loop", "bridge", "twin", "row"):
            for table in grown_small_ones(61, 10, (deed,)):
                self.assertEqual(self.assert_stands(table)[0], "small")

    def test_of_what_is_beside_nothing_is_left(self):
        for kind, table in small_ones().items():
            names, rows = table
            more = (names + ["x", "y"], rows + [["x", "y"]])
            self.assert_kind(more, kind)
            gone = judged(more)[2:4]
            self.assertEqual(sorted(gone[0] + gone[1]), ["x", "y"])

    def test_tables_of_which_a_small_one_is_left(self):
        kinds = Counter()
        for table in grown_small_ones(62, 50):
            paper = self.assert_stands(table)
            self.assertEqual(paper[0], "small", table)
            kinds[paper[1]] += 1
        self.assertEqual(set(kinds), {"seven", "crossed seven", "five", "three"})

    def test_names_are_taken_and_shrunk(self):
        papers = [judged(table) for table in grown_small_ones(63, 25)]
        self.assertTrue(any(paper[2] and paper[3] for paper in papers))
        self.assertTrue(any(paper[2] and not paper[3] for paper in papers))
        self.assertTrue(any(paper[3] and not paper[2] for paper in papers))

    def test_any_tables_at_the_bounds(self):
        kinds = Counter(self.assert_stands(table)[0] for table in tables_at_the_bounds(64, 120))
        self.assertGreater(min(kinds["net"], kinds["small"]), 10)

    def test_eight_steps_and_eight_names_beyond_them(self):
        wide = (list("abcdefghijkl"), [*small_ones()["seven"][1], ["h"], ["i"], ["j"], ["k", "l"]])
        deep = (list("abcdefghijkl"), [*small_ones()["crossed seven"][1], ["h", "i"]])
        for table in (wide, deep):
            self.assertTrue(keeps_bounds(table) and is_table(table))
            self.assertTrue(is_table(crossed(table)))
        self.assert_kind(wide, "seven")
        self.assert_kind(deep, "crossed seven")
        self.assert_kind(crossed(wide), "crossed seven")
        self.assert_kind(crossed(deep), "seven")

    def test_tables_of_few_names_are_nets(self):
        for table in chance_tables(65, 60, 6):
            self.assertEqual(self.assert_stands(table)[0], "net")

    def test_any_tables(self):
        for table in chance_tables(66, 60, 12):
            if is_table(table):
                self.assert_stands(table)

    def test_tables_of_nets_are_read(self):
        for net in bounded_nets([*chance_nets(67, 40, 12), *grown_nets(68, 40, 12)]):
            table = table_of_net(net)
            self.assertEqual(judged(table), ("net", read(table)))
            self.assert_stands(table)

    def test_crossed_tables_of_nets(self):
        kinds = Counter()
        for net in nets_off_the_ball(69, 25):
            paper = self.assert_stands(crossed(table_of(net)))
            kinds[paper[1]] += 1
            word, kind, taken, shrunk, told = paper
            self.assertTrue(net_stands(net, (word, kind, shrunk, taken, told)))
        # Of a net's crossed table neither seven can be left.
        self.assertEqual(set(kinds), {"five", "three"})

    def test_by_other_rows_it_is_judged_the_same(self):
        for seed, table in enumerate(grown_small_ones(70, 10)):
            self.assertEqual(judged(other_rows(table, seed)), judged(table))

    def test_the_net_told_of_what_is_left(self):
        for kind, net in (("five", five()), ("three", three())):
            word, told_kind, taken, shrunk, told = judged(crossed(table_of(net)))
            self.assertEqual(told_kind, kind)
            self.assertTrue(is_net(told))
            self.assertTrue(alike(table_of(told), crossed(left(crossed(table_of(net)), taken, shrunk))))


if __name__ == "__main__":
    unittest.main()
