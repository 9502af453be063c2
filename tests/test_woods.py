"""Points 14 and 16: woods, cuts, walks."""

import unittest

from roundsalone.errors import NoRound, RoundError
from roundsalone.nets import points, table_of
from roundsalone.rows import is_row
from roundsalone.woods import cut, walk, wood
from tests.brute import LETTERS, chance_nets, crossed_span, every_row, minimal, net_span

TRIANGLE = [("a", "p", "q"), ("b", "q", "r"), ("c", "p", "r")]
MIXED = [("a", "p", "p"), ("b", "p", "q"), ("c", "p", "q"), ("d", "x", "y"), ("e", "z", "z"), ("f", "q", "q")]
K4 = [("a", "1", "2"), ("b", "1", "3"), ("c", "1", "4"), ("d", "2", "3"), ("e", "2", "4"), ("f", "3", "4")]
PIECES = [("a", "p", "q"), ("b", "x", "y"), ("c", "p", "q"), ("d", "x", "z"), ("e", "y", "z"), ("f", "q", "s")]
RING = [(LETTERS[at], *sorted([str(at), str((at + 1) % 9)])) for at in range(9)]


def all_nets():
    yield from ([], TRIANGLE, MIXED, K4, PIECES, RING, [("a", "p", "p")], [("a", "p", "q")])
    yield [("a", "p", "p"), ("b", "p", "p")]
    yield [("a", "b", "c"), ("b", "a", "c"), ("c", "a", "b")]
    yield from chance_nets(21, 120, 7)


class Woods(unittest.TestCase):

    def test_written_ones(self):
        self.assertEqual(wood([]), [])
        self.assertEqual(wood(TRIANGLE), ["a", "b"])
        self.assertEqual(wood(MIXED), ["b", "d"])
        self.assertEqual(wood(K4), ["a", "b", "c"])
        self.assertEqual(wood(PIECES), ["a", "b", "d", "f"])
        self.assertEqual(wood(RING), list("abcdefgh"))
        self.assertEqual(wood([("a", "p", "p")]), [])

    def test_against_the_words(self):
        for net in all_nets():
            found = minimal(net_span(net))
            kept = []
            for tie, one, other in net:
                if not any(told <= {*kept, tie} for told in found):
                    kept.append(tie)
            self.assertEqual(wood(net), kept, net)


class Cuts(unittest.TestCase):

    def test_written_ones(self):
        self.assertEqual(cut(TRIANGLE, ["p"]), ["a", "c"])
        self.assertEqual(cut(TRIANGLE, ["p", "q"]), ["b", "c"])
        self.assertEqual(cut(MIXED, ["p"]), ["b", "c"])
        self.assertEqual(cut(MIXED, ["p", "x", "z"]), ["b", "c", "d"])
        self.assertEqual(cut([], []), [])

    def test_of_no_points_and_of_all(self):
        for net in all_nets():
            self.assertEqual(cut(net, []), [], net)
            self.assertEqual(cut(net, points(net)), [], net)

    def test_names_that_are_no_points_change_nothing(self):
        self.assertEqual(cut([], ["p", "q"]), [])
        self.assertEqual(cut(TRIANGLE, ["a", "b", "zz"]), [])
        for net in all_nets():
            for some in every_row(points(net)[:4]):
                self.assertEqual(cut(net, sorted([*some, "0none", "zzz"])), cut(net, some), (net, some))

    def test_against_the_words(self):
        for net in all_nets():
            for some in every_row(points(net)[-5:]):
                told = [tie for tie, one, other in net if len({one, other} & set(some)) == 1 and one != other]
                self.assertEqual(cut(net, some), told, (net, some))

    def test_they_are_just_the_rows_that_meet_each_even_set_evenly(self):
        for net in all_nets():
            told = {frozenset(cut(net, some)) for some in every_row(points(net))}
            self.assertEqual(told, crossed_span(table_of(net)), net)


class Walks(unittest.TestCase):

    def walks(self, net, row):
        """Looks at a walk by all that is said of it."""
        told = walk(net, row)
        ends = {tie: (one, other) for tie, one, other in net}
        self.assertIs(type(told), list)
        for step in told:
            self.assertIs(type(step), tuple)
            self.assertEqual(sorted(step[1:]), sorted(ends[step[0]]), (net, row))
        self.assertEqual(sorted(tie for tie, start, goal in told), row, (net, row))
        starts = [start for tie, start, goal in told]
        self.assertEqual([goal for tie, start, goal in told], starts[1:] + starts[:1], (net, row))
        self.assertEqual(len(starts), len(set(starts)), (net, row))
        self.assertEqual(told[0], (row[0], *ends[row[0]]), (net, row))

    def test_written_ones(self):
        self.assertEqual(walk(TRIANGLE, ["a", "b", "c"]), [("a", "p", "q"), ("b", "q", "r"), ("c", "r", "p")])
        self.assertEqual(walk(MIXED, ["a"]), [("a", "p", "p")])
        self.assertEqual(walk(MIXED, ["e"]), [("e", "z", "z")])
        self.assertEqual(walk(MIXED, ["b", "c"]), [("b", "p", "q"), ("c", "q", "p")])
        self.assertEqual(walk(K4, ["a", "b", "e", "f"]), [("a", "1", "2"), ("e", "2", "4"), ("f", "4", "3"),
                                                          ("b", "3", "1")])
        self.assertEqual(walk([("a", "q", "r"), ("b", "p", "q"), ("c", "p", "r")], ["a", "b", "c"]),
                         [("a", "q", "r"), ("c", "r", "p"), ("b", "p", "q")])

    def test_a_tie_called_like_a_point_of_the_way(self):
        net = [("a", "1", "b"), ("b", "2", "3"), ("c", "2", "b"), ("d", "1", "3")]
        self.assertEqual(walk(net, list("abcd")), [("a", "1", "b"), ("c", "b", "2"), ("b", "2", "3"), ("d", "3", "1")])

    def test_each_round_and_no_other_row(self):
        for net in all_nets():
            found = minimal(net_span(net))
            for row in every_row([tie for tie, one, other in net]):
                if frozenset(row) in found:
                    self.walks(net, row)
                else:
                    self.assertRaises(NoRound, walk, net, row)

    def test_two_rounds_side_by_side_or_at_one_point_are_no_round(self):
        eight = [("a", "p", "q"), ("b", "p", "q"), ("c", "p", "r"), ("d", "p", "r")]
        apart = [("a", "p", "q"), ("b", "p", "q"), ("c", "s", "r"), ("d", "s", "r")]
        for net in (eight, [(tie, *sorted(ends)) for tie, *ends in apart], [(tie, "p", "p") for tie in "abcd"]):
            self.assertRaises(NoRound, walk, net, ["a", "b", "c", "d"])

    def test_names_that_are_no_ties(self):
        for net in (TRIANGLE, MIXED, K4, []):
            for row in minimal(net_span(net)):
                for more in ("0", "p", "zz"):
                    self.assertTrue(is_row(sorted([*row, more])))
                    self.assertRaises(NoRound, walk, net, sorted([*row, more]))
            self.assertRaises(NoRound, walk, net, ["zz"])
            self.assertRaises(NoRound, walk, net, ["p", "q", "r"])

    def test_the_empty_row(self):
        for net in all_nets():
            self.assertRaises(NoRound, walk, net, [])
            self.assertRaises(RoundError, walk, net, [])


if __name__ == "__main__":
    unittest.main()
