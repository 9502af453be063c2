"""Points 12, 13 and 15: nets, their points, stars and pieces, their tables."""

import itertools
import unittest

from roundsalone.houses import rounds, walls
from roundsalone.nets import is_net, pieces, points, star, stars, table_of
from roundsalone.spans import steps
from tests.brute import LETTERS, chance_nets, net_span, span

TRIANGLE = [("a", "p", "q"), ("b", "q", "r"), ("c", "p", "r")]
MIXED = [("a", "p", "p"), ("b", "p", "q"), ("c", "p", "q"), ("d", "x", "y"), ("e", "z", "z"), ("f", "q", "q")]


def loops(many):
    return [(tie, "p", "p") for tie in LETTERS[:many]]


def path(many):
    return [(LETTERS[at], LETTERS[at], LETTERS[at + 1]) for at in range(many)]


def beside(many):
    return [(tie, "p", "q") for tie in LETTERS[:many]]


def all_nets():
    yield from ([], TRIANGLE, MIXED, loops(1), loops(8), path(8), beside(9), loops(4) + path(8)[4:])
    yield from chance_nets(13, 400, 8)


class IsNet(unittest.TestCase):

    def test_nets(self):
        for net in ([], TRIANGLE, MIXED, loops(3), beside(3), path(3), [("a", "a", "a")], [("a", "a", "b")],
                    [("0", "9", "a"), ("abcdef", "abcde", "abcdef")], [("10", "p", "q"), ("9", "p", "q")],
                    [("a", "10", "9")], [("a", "p", "q"), ("b", "r", "s")]):
            self.assertIs(is_net(net), True, net)

    def test_nets_by_chance(self):
        for net in chance_nets(14, 200, 8):
            self.assertIs(is_net(net), True, net)

    def test_ties_that_do_not_rise(self):
        for ties in ("aa", "ba", "acb", "aab", "abb", "aba"):
            self.assertIs(is_net([(tie, "p", "q") for tie in ties]), False, ties)
        self.assertIs(is_net([("9", "p", "q"), ("10", "p", "q")]), False)
        self.assertIs(is_net([("a", "p", "q"), ("a", "r", "s")]), False)

    def test_points_the_wrong_way_about(self):
        self.assertIs(is_net([("a", "q", "p")]), False)
        self.assertIs(is_net([("a", "9", "10")]), False)
        self.assertIs(is_net([("a", "p", "q"), ("b", "r", "q")]), False)

    def test_names_that_are_none(self):
        for bad in ("", "A", "a b", "abcdefg", "-", "p_", 0, 1, True, None, [], ["p"], (), ("p",)):
            for tie in ((bad, "p", "q"), ("b", bad, "z"), ("b", "0", bad), ("b", bad, bad)):
                self.assertIs(is_net([tie]), False, tie)
                self.assertIs(is_net([("a", "p", "q"), tie]), False, tie)

    def test_tuples_of_other_lengths_and_lists_for_tuples(self):
        for tie in ((), ("a",), ("a", "p"), ("a", "p", "q", "r"), ["a", "p", "q"], "apq", "a p q", None, 0, True):
            self.assertIs(is_net([tie]), False, tie)
            self.assertIs(is_net([("0", "p", "q"), tie]), False, tie)
        self.assertIs(is_net([[("a", "p", "q")]]), False)

    def test_what_is_no_list(self):
        for thing in ((), (("a", "p", "q"),), ("a", "p", "q"), "", "-", "a p q", 0, 1, -1, True, False, None, ([],),
                      ([], []), [[]], [()], [None], [0], [True], [[[[[[]]]]]], (([("a", "p", "q")],),)):
            self.assertIs(is_net(thing), False, thing)

    def test_twelve_ties_and_thirteen(self):
        self.assertIs(is_net(loops(6) + path(12)[6:]), True)
        self.assertIs(is_net(loops(6) + path(13)[6:]), False)
        self.assertIs(is_net(loops(4) + path(12)[4:]), True)
        self.assertIs(is_net(loops(8) + path(12)[8:]), True)

    def test_eight_steps_and_nine(self):
        self.assertIs(is_net(loops(8)), True)
        self.assertIs(is_net(loops(9)), False)
        self.assertIs(is_net(beside(9)), True)
        self.assertIs(is_net(beside(10)), False)

    def test_eight_ties_beyond_the_steps_and_nine(self):
        self.assertIs(is_net(path(8)), True)
        self.assertIs(is_net(path(9)), False)
        self.assertIs(is_net(path(8) + [("zz", "a", "i")]), True)
        self.assertIs(is_net(path(9) + [("zz", "a", "j")]), False)
        self.assertIs(is_net([(tie, tie + "0", tie + "1") for tie in LETTERS[:8]]), True)
        self.assertIs(is_net([(tie, tie + "0", tie + "1") for tie in LETTERS[:9]]), False)

    def test_a_thing_of_many(self):
        self.assertIs(is_net([(one + other, "p", "q") for one in LETTERS[:9] for other in LETTERS[:10]]), False)


class Points(unittest.TestCase):

    def test_written_ones(self):
        self.assertEqual(points([]), [])
        self.assertEqual(points(TRIANGLE), ["p", "q", "r"])
        self.assertEqual(points(MIXED), ["p", "q", "x", "y", "z"])
        self.assertEqual(points([("a", "9", "a"), ("b", "10", "9")]), ["10", "9", "a"])

    def test_against_the_words(self):
        for net in all_nets():
            self.assertEqual(points(net), sorted({point for tie in net for point in tie[1:]}), net)


class Stars(unittest.TestCase):

    def test_written_ones(self):
        self.assertEqual(star(TRIANGLE, "p"), ["a", "c"])
        self.assertEqual(star(MIXED, "p"), ["a", "a", "b", "c"])
        self.assertEqual(star(MIXED, "q"), ["b", "c", "f", "f"])
        self.assertEqual(star(MIXED, "y"), ["d"])
        self.assertEqual(star(MIXED, "z"), ["e", "e"])
        self.assertEqual(stars([]), [])
        self.assertEqual(stars(TRIANGLE), [["a", "b"], ["a", "c"], ["b", "c"]])
        self.assertEqual(stars(MIXED), [["a", "a", "b", "c"], ["b", "c", "f", "f"], ["d"], ["d"], ["e", "e"]])
        self.assertEqual(stars([("a", "z", "z"), ("b", "p", "q")]), [["a", "a"], ["b"], ["b"]])

    def test_against_the_words(self):
        for net in all_nets():
            told = []
            for point in points(net):
                ends = [tie for tie, one, other in net if one == point]
                ends += [tie for tie, one, other in net if other == point]
                self.assertEqual(star(net, point), sorted(ends), net)
                told.append(sorted(ends))
            self.assertEqual(stars(net), sorted(told), net)

    def test_other_names_of_points_have_the_same_stars(self):
        for net in all_nets():
            called = {point: f"n{40 - at}" for at, point in enumerate(points(net))}
            other = [(tie, *sorted([called[one], called[two]])) for tie, one, two in net]
            self.assertEqual(stars(other), stars(net), net)

    def test_nets_of_the_same_stars_are_the_same_but_for_the_names_of_points(self):
        pairs = list(itertools.combinations_with_replacement("pqr", 2))
        by_stars = {}
        for ends in itertools.product(pairs, repeat=4):
            net = [(tie, *two) for tie, two in zip("abcd", ends)]
            first = by_stars.setdefault(str(stars(net)), net)
            self.assertTrue(any(called_otherwise(net, places) == first
                                for places in itertools.permutations(points(first))), (net, first))


def called_otherwise(net, places):
    """The net, its points called by the places one after the other."""
    called = dict(zip(points(net), places, strict=True))
    return [(tie, *sorted([called[one], called[other]])) for tie, one, other in net]


def hanging(net):
    """The pieces, by putting together what has a common point until nothing changes."""
    groups = [({tie}, {one, other}) for tie, one, other in net]
    while True:
        pairs = [(a, b) for a, b in itertools.combinations(groups, 2) if a[1] & b[1]]
        if not pairs:
            return sorted([sorted(ties) for ties, places in groups])
        one, other = pairs[0]
        groups = [group for group in groups if group not in (one, other)]
        groups.append((one[0] | other[0], one[1] | other[1]))


class Pieces(unittest.TestCase):

    def test_written_ones(self):
        self.assertEqual(pieces([]), [])
        self.assertEqual(pieces(TRIANGLE), [["a", "b", "c"]])
        self.assertEqual(pieces(MIXED), [["a", "b", "c", "f"], ["d"], ["e"]])
        self.assertEqual(pieces([("a", "p", "q"), ("b", "r", "s"), ("c", "q", "r"), ("d", "x", "x")]),
                         [["a", "b", "c"], ["d"]])
        self.assertEqual(pieces([("a", "x", "y"), ("b", "p", "q"), ("c", "x", "z")]), [["a", "c"], ["b"]])

    def test_a_tie_and_a_point_of_like_names(self):
        self.assertEqual(pieces([("a", "b", "b"), ("b", "a", "a")]), [["a"], ["b"]])

    def test_against_the_words(self):
        for net in all_nets():
            self.assertEqual(pieces(net), hanging(net), net)


class Tables(unittest.TestCase):

    def test_written_ones(self):
        self.assertEqual(table_of([]), ([], []))
        self.assertEqual(table_of(TRIANGLE), (["a", "b", "c"], [["a", "b", "c"]]))
        self.assertEqual(table_of(beside(3)), (["a", "b", "c"], [["a", "c"], ["b", "c"]]))
        self.assertEqual(table_of(loops(2)), (["a", "b"], [["a"], ["b"]]))
        self.assertEqual(table_of(path(2)), (["a", "b"], []))
        self.assertEqual(table_of(MIXED), (["a", "b", "c", "d", "e", "f"], [["a"], ["b", "c"], ["e"], ["f"]]))

    def test_against_the_words(self):
        for net in itertools.islice(all_nets(), 200):
            told = table_of(net)
            self.assertIsInstance(told, tuple)
            self.assertEqual(told[0], [tie for tie, one, other in net], net)
            self.assertEqual(span(told), net_span(net), net)

    def test_its_rows_are_its_steps(self):
        for net in all_nets():
            told = table_of(net)
            self.assertEqual(told[1], steps(told), net)

    def test_as_many_steps_as_ties_less_points_and_pieces(self):
        for net in all_nets():
            self.assertEqual(len(table_of(net)[1]), len(net) - len(points(net)) + len(pieces(net)), net)

    def test_a_round_is_what_can_be_walked(self):
        square = [("a", "p", "q"), ("b", "q", "r"), ("c", "r", "s"), ("d", "p", "s"), ("e", "p", "r"), ("f", "t", "t")]
        self.assertEqual(rounds(table_of(square)), [["f"], ["a", "b", "e"], ["c", "d", "e"], ["a", "b", "c", "d"]])
        self.assertEqual(walls(table_of(TRIANGLE)), [["a", "b"], ["a", "c"], ["b", "c"]])


if __name__ == "__main__":
    unittest.main()
