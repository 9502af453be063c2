"""Points 4, 13 and 20 to 23: roads from net to net, or a round of one alone."""

import collections
import itertools
import random
import unittest

from roundsalone.errors import NoMatch, NoStep, RoundError
from roundsalone.nets import is_net, pieces, points, stars, table_of
from roundsalone.parts import parts
from roundsalone.roads import road
from roundsalone.steps import step_done
from tests.brute import LETTERS, chance_nets, chance_step, every_row, grown_nets, minimal, net_span

WORDS = ("turn", "apart", "together")


def net_of(text):
    """A net by its ties' pairs of points, the ties called a, b and so on."""
    return [(tie, *sorted(pair)) for tie, pair in zip(LETTERS, text.split())]


def ring_of(order):
    """A ring of the ties in this order."""
    many = len(order)
    return sorted((tie, *sorted([f"p{at}", f"p{(at + 1) % many}"])) for at, tie in enumerate(order))


WHOLES = [net_of(text) for text in (
    "12 13 14 23 24 34", "12 13 14 15 23 24 25 34 35 45", "14 15 16 24 25 26 34 35 36", "12 23 13 45 56 46 14 25 36",
    "01 02 03 04 05 06 12 23 34 45 56 16", "01 02 03 04 12 23 34 14")]
BUNDLES = [net_of(" ".join(["12"] * many)) for many in range(2, 10)]
ALONE = [*WHOLES, *BUNDLES, ring_of("abc"), ring_of("ab"), [("a", "p", "q")], [("a", "p", "p")]]
MANIFOLD = net_of("13 14 23 24 35 56 46 17 17 27 12 12")
# Twelve ties, in some of these nets eight steps, in some eight ties beyond them.
BOUNDS = [net_of(text) for text in (
    "12 23 34 45 56 67 78 89 19 00 00 00", "12 23 34 45 56 67 78 89 19 12 12 12",
    "12 12 12 12 12 12 12 12 12 23 34 45", "12 12 12 12 12 12 12 12 23 23 34 45",
    "12 23 34 45 56 67 78 89 11 22 33 44", "11 11 11 11 22 22 22 22 12 23 34 45",
    "12 34 56 78 11 33 55 77 2a 4b 6c 8d", "12 12 23 23 34 34 45 45 56 56 16 16",
    "12 13 14 23 24 34 56 57 58 67 68 78")]


def called_otherwise(net, chance):
    names = [f"{sign}{number}" for sign in "az0" for number in range(9)]
    called = dict(zip(points(net), chance.sample(names, len(points(net)))))
    return [(tie, *sorted([called[one], called[other]])) for tie, one, other in net]


def walked(net, chance, many, done):
    """The net behind so many steps of all kinds, its points called otherwise; the kinds of the steps are counted."""
    for turn in range(many):
        step = chance_step(chance, net, chance.choice(WORDS))
        try:
            net = step_done(net, step)
            done[step[0]] += 1
        except NoStep:
            pass
    return called_otherwise(net, chance)


class Roads(unittest.TestCase):

    def leads(self, one, other):
        """Walks the road told of two nets that have the same table."""
        told = road(one, other)
        self.assertIs(type(told), tuple)
        self.assertEqual(len(told), 2, (one, other))
        self.assertEqual(told[0], "same", (one, other))
        self.assertIs(type(told[1]), list)
        self.assertLessEqual(len(told[1]), 400)
        net = one
        for step in told[1]:
            net = step_done(net, step)
            self.assertTrue(is_net(net))
        self.assertEqual(stars(net), stars(other), (one, other))
        return told[1]

    def parts_them(self, one, other):
        """Looks at the round told of two nets that have unlike tables."""
        told = road(one, other)
        self.assertIs(type(told), tuple)
        self.assertEqual(len(told), 3, (one, other))
        self.assertEqual(told[0], "unlike", (one, other))
        self.assertIs(type(told[1]), int)
        self.assertIn(told[1], (0, 1))
        self.assertIs(type(told[2]), list)
        self.assertEqual(told[2], sorted(told[2]))
        mine, its = (one, other) if told[1] == 0 else (other, one)
        self.assertIn(frozenset(told[2]), minimal(net_span(mine)), (one, other))
        self.assertNotIn(frozenset(told[2]), minimal(net_span(its)), (one, other))

    def look_at_walked(self, nets, seed, many):
        chance = random.Random(seed)
        done = collections.Counter()
        moved = 0
        for net in nets:
            other = walked(net, chance, many, done)
            self.leads(net, other)
            self.leads(other, net)
            self.leads(net, net)
            self.leads(other, other)
            moved += stars(net) != stars(other)
        return done, moved

    def test_grown_nets_walked(self):
        nets = [net for net in grown_nets(31, 250, 12) if is_net(net)]
        done, moved = self.look_at_walked(nets, 32, 60)
        for word in WORDS:
            self.assertGreater(done[word], 150)
        self.assertGreater(moved, 100)
        self.assertGreater(len([net for net in nets if len(net) == 12]), 20)

    def test_nets_by_chance_walked(self):
        done, moved = self.look_at_walked([net for net in chance_nets(33, 200, 9) if net and is_net(net)], 34, 20)
        self.assertGreater(moved, 50)

    def test_nets_at_the_bounds(self):
        for net in [*BOUNDS, MANIFOLD]:
            self.assertTrue(is_net(net), net)
            self.assertEqual(len(net), 12)
        done, moved = self.look_at_walked([*BOUNDS, MANIFOLD] * 4, 35, 60)
        self.assertGreater(moved, 30)

    def test_rings_in_any_order(self):
        for many in (4, 5):
            start = ring_of(LETTERS[:many])
            for order in itertools.permutations(LETTERS[:many]):
                self.leads(start, ring_of(order))
        chance = random.Random(36)
        for turn in range(20):
            one, other = (ring_of(chance.sample(LETTERS[:9], 9)) for side in range(2))
            self.leads(one, other)

    def test_rings_of_groups_in_any_order(self):
        def string(order):
            return sorted((tie, str(at), str(at + 1)) for at, group in enumerate(order) for tie in group)
        for order in itertools.permutations(["ab", "c", "de", "fgh"]):
            closed = [*string(order), ("i", "0", "4")]
            self.leads([*string(["ab", "c", "de", "fgh"]), ("i", "0", "4")], closed)
            self.leads([*closed, ("j", "0", "4"), ("k", "0", "4")],
                       [*string(["fgh", "c", "ab", "de"]), ("i", "0", "4"), ("j", "0", "4"), ("k", "0", "4")])

    def test_steps_of_each_kind_from_every_net_they_can_be_done_on(self):
        for net in grown_nets(37, 40, 6):
            for row in every_row([tie for tie, one, other in net]):
                steps = [("turn", row), *(("apart", point, row, "new") for point in points(net))]
                for step in steps:
                    try:
                        other = step_done(net, step)
                    except NoStep:
                        continue
                    self.leads(net, other)
                    self.leads(other, net)

    def test_no_ties(self):
        self.assertEqual(road([], []), ("same", []))

    def test_from_one_piece_to_several(self):
        one = [("a", "p", "q"), ("b", "p", "q"), ("c", "p", "p"), ("d", "q", "r")]
        other = [("a", "1", "2"), ("b", "1", "2"), ("c", "3", "3"), ("d", "4", "5")]
        self.assertEqual(len(pieces(one)), 1)
        self.assertEqual({step[0] for step in self.leads(one, other)}, {"apart"})
        self.assertEqual({step[0] for step in self.leads(other, one)}, {"together"})

    def test_points_that_bear_the_names_of_new_ones(self):
        net = [(tie, "0", str(at + 1)) for at, tie in enumerate(LETTERS[:8])]
        other = [(tie, str(at), str(at + 1)) for at, tie in enumerate(LETTERS[:8])]
        self.leads(net, other)
        self.leads(other, net)

    def test_just_one_of_both(self):
        chance = random.Random(38)
        seen = collections.Counter()
        for net in [*chance_nets(39, 150, 7), *grown_nets(40, 150, 7)]:
            for one, other in itertools.permutations([net, self.somewhat_other(net, chance)]):
                same = net_span(one) == net_span(other)
                if same:
                    self.leads(one, other)
                else:
                    self.parts_them(one, other)
                    seen[road(one, other)[1]] += 1
                seen[same] += 1
        self.assertGreater(min(seen[True], seen[False]), 100)

    def somewhat_other(self, net, chance):
        """The net with one end at another point, or two ties called by one another's names."""
        if not net:
            return []
        pairs = [pair for tie, *pair in net]
        at = chance.randrange(len(net))
        if chance.random() < 0.5:
            pairs[at], pairs[0] = pairs[0], pairs[at]
        else:
            pairs[at] = [pairs[at][0], chance.choice(points(net))]
        return [(tie, *sorted(pair)) for (tie, *old), pair in zip(net, pairs)]

    def test_all_pairs_of_nets_of_three_ties(self):
        pairs = list(itertools.combinations_with_replacement("123456", 2))
        nets = {}
        for ends in itertools.product(pairs, repeat=3):
            net = [(tie, *two) for tie, two in zip("abc", ends)]
            nets.setdefault(str(stars(net)), net)
        for one, other in itertools.product(nets.values(), repeat=2):
            if table_of(one) == table_of(other):
                self.leads(one, other)
            else:
                self.parts_them(one, other)

    def test_written_unlike_ones(self):
        loop, bridge = [("a", "p", "p")], [("a", "p", "q")]
        self.assertEqual(road(loop, bridge), ("unlike", 0, ["a"]))
        self.assertEqual(road(bridge, loop), ("unlike", 1, ["a"]))
        self.assertEqual(road(net_of("12 23 13"), net_of("12 23 34")), ("unlike", 0, ["a", "b", "c"]))
        self.assertEqual(road(net_of("12 23 34"), net_of("12 23 13")), ("unlike", 1, ["a", "b", "c"]))


class ToldAlone(unittest.TestCase):

    def test_points_called_otherwise(self):
        chance = random.Random(41)
        for net in [*ALONE, *BOUNDS, MANIFOLD, ring_of("abcde")]:
            other = called_otherwise(net, chance)
            self.assertEqual(stars(other), stars(net))
            self.assertEqual(road(net, other)[0], "same")

    def test_what_is_looked_at_is_one_part(self):
        for net in ALONE:
            self.assertEqual(len(parts(table_of(net))), 1, net)
            self.assertEqual(len(pieces(net)), 1, net)
        for net in WHOLES:
            self.assertEqual([kind for kind, share in parts(table_of(net))], ["whole"], net)

    def test_no_turn_changes_their_stars(self):
        for net in ALONE:
            for row in every_row([tie for tie, one, other in net][:8]):
                try:
                    self.assertEqual(stars(step_done(net, ("turn", row))), stars(net), (net, row))
                except NoStep:
                    pass

    def test_of_two_with_the_same_table_the_stars_are_the_same(self):
        for net in (WHOLES[0], ring_of("abc"), BUNDLES[1], BUNDLES[2]):
            ties = [tie for tie, one, other in net]
            for order in itertools.permutations(ties):
                other = sorted((tie, *ends) for tie, (old, *ends) in zip(order, net))
                self.assertIs(table_of(other) == table_of(net), stars(other) == stars(net), (net, other))
                self.assertEqual(road(net, other)[0], "same" if stars(other) == stars(net) else "unlike")

    def test_others_are_not(self):
        one, other = ring_of("abcd"), ring_of("acbd")
        self.assertEqual(table_of(one), table_of(other))
        self.assertNotEqual(stars(one), stars(other))


class NoMatches(unittest.TestCase):

    def test_unlike_ties(self):
        net = net_of("12 23 13")
        for other in ([], net[:2], net[1:], net_of("12 23 13 14"), net_of("12 23 13 11"), [*net[:2], ("d", "1", "3")],
                      [("0", "1", "1"), *net], [("aa", "1", "2"), *net[1:]]):
            for two in ((net, other), (other, net)):
                self.assertRaises(NoMatch, road, *two)
                self.assertRaises(RoundError, road, *two)
        self.assertRaises(NoMatch, road, [], [("a", "p", "q")])
        self.assertRaises(NoMatch, road, [("a", "p", "p")], [])
        self.assertRaises(NoMatch, road, [("a", "p", "p")], [("b", "p", "p")])

    def test_ties_called_like_points_are_not_mixed_up(self):
        self.assertRaises(NoMatch, road, [("a", "b", "c")], [("b", "a", "c")])
        self.assertEqual(road([("a", "a", "a")], [("a", "b", "b")]), ("same", []))


if __name__ == "__main__":
    unittest.main()
