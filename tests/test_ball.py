"""Points 27 to 29, and 4: crossed nets, and nets laid on a ball."""

import itertools
import unittest
from collections import Counter

from roundsalone.ball import crossed_net, laid
from roundsalone.houses import rounds, walls
from roundsalone.nets import is_net, table_of
from roundsalone.spans import alike, crossed
from tests.brute import chance_nets, grown_nets
from tests.papers import (blocks_grown, bounded_nets, crossed_evens, evens_of_net, faces_of, five, is_net_of, lays,
                          lined, net_stands, nets_off_the_ball, three, wheel)

CUBE = lined(["12", "23", "34", "14", "56", "67", "78", "58", "15", "26", "37", "48"])
TWO_PIECES = lined(["12", "12", "23", "13", "33", "45", "46", "56", "77"])


class TheWords(unittest.TestCase):
    """What is held against the words below, itself held against a few layings."""

    def test_a_loop_alone_has_two_faces(self):
        self.assertEqual(len(faces_of([("p", ["a", "a"])])), 2)

    def test_two_loops_lie_side_by_side_or_across(self):
        net = lined(["11", "11"])
        self.assertTrue(lays(net, [("1", ["a", "a", "b", "b"])]))
        self.assertTrue(lays(net, [("1", ["a", "b", "b", "a"])]))
        self.assertFalse(lays(net, [("1", ["a", "b", "a", "b"])]))

    def test_three_ties_beside_one_another(self):
        net = lined(["12", "12", "12"])
        self.assertTrue(lays(net, [("1", ["a", "b", "c"]), ("2", ["a", "c", "b"])]))
        self.assertTrue(lays(net, [("1", ["a", "b", "c"]), ("2", ["c", "b", "a"])]))
        self.assertFalse(lays(net, [("1", ["a", "b", "c"]), ("2", ["a", "b", "c"])]))

    def test_five_and_three_are_laid_in_no_way(self):
        net = three()
        orders = list(itertools.product([0, 1], repeat=6))
        stars = [(point, [tie for tie, *ends in net if point in ends]) for point in "123456"]
        for order in orders:
            lists = [(point, ties if way else ties[::-1]) for (point, ties), way in zip(stars, order)]
            self.assertFalse(lays(net, lists))


class CrossedNets(unittest.TestCase):

    def assert_crossed(self, net):
        other = crossed_net(net)
        names = [tie for tie, one, end in net]
        self.assertTrue(is_net_of(names, crossed_evens(names, evens_of_net(net)), other), (net, other))
        self.assertTrue(is_net(other))
        return other

    def test_the_net_without_ties(self):
        self.assertEqual(crossed_net([]), [])

    def test_a_loop_is_a_bridge_and_a_bridge_a_loop(self):
        (tie, one, other), = crossed_net([("a", "p", "p")])
        self.assertNotEqual(one, other)
        (tie, one, other), = crossed_net([("a", "p", "q")])
        self.assertEqual(one, other)

    def test_its_rounds_are_the_net_s_walls_and_the_other_way_about(self):
        for net in (wheel(4), CUBE, TWO_PIECES, *blocks_grown(71, 10, 9)):
            other = self.assert_crossed(net)
            self.assertEqual(rounds(table_of(other)), walls(table_of(net)))
            self.assertEqual(walls(table_of(other)), rounds(table_of(net)))

    def test_crossed_twice(self):
        for net in (wheel(5), CUBE, TWO_PIECES, *blocks_grown(72, 20, 12)):
            self.assertTrue(alike(table_of(crossed_net(crossed_net(net))), table_of(net)))

    def test_five_and_three_have_none(self):
        self.assertIsNone(crossed_net(five()))
        self.assertIsNone(crossed_net(three()))

    def test_nor_with_ties_more(self):
        for net in nets_off_the_ball(73, 60):
            self.assertIsNone(crossed_net(net), net)

    def test_nor_beside_others(self):
        self.assertIsNone(crossed_net(five() + [("x", "5", "8"), ("y", "7", "7")]))
        self.assertIsNone(crossed_net(three() + [("x", "8", "9"), ("y", "7", "9"), ("z", "7", "8")]))

    def test_five_with_a_tie_less_has_one(self):
        for gone in range(10):
            self.assert_crossed(five()[:gone] + five()[gone + 1:])

    def test_three_with_a_tie_less_has_one(self):
        for gone in range(9):
            self.assert_crossed(three()[:gone] + three()[gone + 1:])

    def test_any_nets(self):
        for net in bounded_nets(chance_nets(74, 60, 12)):
            if crossed_net(net) is not None:
                self.assert_crossed(net)


class Laid(unittest.TestCase):

    def assert_laid(self, net):
        told = laid(net)
        self.assertEqual(told[0], "laid", net)
        self.assertEqual(len(told), 2)
        self.assertTrue(lays(net, told[1]), (net, told))
        return told[1]

    def assert_told(self, net):
        """Whichever is told holds, and it is laid just where it has a crossed net."""
        told = laid(net)
        self.assertEqual(told[0] == "laid", crossed_net(net) is not None, net)
        if told[0] == "laid":
            self.assert_laid(net)
            return "laid"
        self.assertTrue(net_stands(net, told), (net, told))
        return told[1]

    def test_the_net_without_ties(self):
        self.assertEqual(laid([]), ("laid", []))

    def test_loops(self):
        self.assertEqual(laid([("a", "p", "p")]), ("laid", [("p", ["a", "a"])]))
        self.assert_laid(lined(["11", "11", "11"]))
        self.assert_laid(lined(["11", "12", "22", "22"]))
        self.assert_laid(lined(["11", "22", "33"]))

    def test_bridges(self):
        self.assertEqual(laid([("a", "p", "q")]), ("laid", [("p", ["a"]), ("q", ["a"])]))
        self.assert_laid(lined(["12", "13", "14", "45", "46"]))

    def test_rings_and_bundles(self):
        for many in range(2, 10):
            self.assert_laid(lined([(at, (at + 1) % many) for at in range(many)]))
            self.assert_laid(lined(["12"] * many))

    def test_several_blocks_at_a_point(self):
        self.assert_laid(lined(["12", "12", "12", "13", "13", "13", "11", "14", "14", "45"]))
        self.assert_laid(lined(["12", "23", "13", "14", "45", "15", "16", "67", "17", "11"]))

    def test_several_pieces(self):
        lists = self.assert_laid(TWO_PIECES)
        self.assertEqual([point for point, ties in lists], ["1", "2", "3", "4", "5", "6", "7"])

    def test_points_are_told_as_they_are_sorted(self):
        net = [("a", "10", "9"), ("b", "9", "a"), ("c", "10", "a")]
        self.assertEqual([point for point, ties in self.assert_laid(net)], ["10", "9", "a"])

    def test_wholes(self):
        for net in (wheel(3), wheel(4), wheel(5), wheel(6), CUBE):
            self.assert_laid(net)

    def test_grown_nets(self):
        for net in bounded_nets(grown_nets(75, 60, 12)) + blocks_grown(76, 60, 12):
            self.assert_laid(net)

    def test_five_and_three(self):
        self.assertEqual(laid(five())[:4], ("small", "five", [], []))
        self.assertEqual(laid(three())[:4], ("small", "three", [], []))
        self.assert_told(five())
        self.assert_told(three())

    def test_with_a_tie_less(self):
        for gone in range(10):
            self.assert_laid(five()[:gone] + five()[gone + 1:])
        for gone in range(9):
            self.assert_laid(three()[:gone] + three()[gone + 1:])

    def test_with_ties_more(self):
        kinds = Counter(self.assert_told(net) for net in nets_off_the_ball(77, 40))
        self.assertEqual(set(kinds), {"five", "three"})

    def test_taken_and_shrunk_are_not_changed_about(self):
        bridge = three() + [("x", "3", "7")]
        beside = three() + [("x", "1", "4")]
        parted = sorted(three()[1:] + [("a", "1", "7"), ("x", "4", "7")])
        self.assertEqual(laid(beside)[2:4], (["a"], []))
        self.assertFalse(net_stands(beside, ("small", "three", [], ["a"], laid(beside)[4])))
        for net in (bridge, beside, parted):
            self.assertTrue(net_stands(net, laid(net)))

    def test_any_nets(self):
        kinds = Counter(self.assert_told(net) for net in bounded_nets(chance_nets(78, 120, 12)))
        self.assertIn("laid", kinds)

    def test_at_the_bounds(self):
        off = lined([*itertools.combinations("12345", 2), "12", "34"])
        self.assertEqual(self.assert_told(off), "five")
        self.assert_laid(lined(["12", "23", "34", "45", "56", "67", "78", "89", "19", "14", "47", "17"]))
        self.assert_laid(lined([*(str(at) * 2 for at in range(8)), "12", "34", "56", "78"]))


if __name__ == "__main__":
    unittest.main()
