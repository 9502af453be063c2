"""Points 20 and 21: steps on nets."""

import itertools
import unittest

from roundsalone.errors import NoStep, RoundError
from roundsalone.nets import is_net, points, stars, table_of
from roundsalone.steps import step_done
from tests.brute import chance_nets, every_row
from tests.words import word_apart, word_together, word_turn

# Two triangles with a common tie, a loop on it, and a piece of two ties.
NET = [("a", "p", "q"), ("b", "q", "r"), ("c", "p", "r"), ("d", "q", "s"), ("e", "p", "s"), ("f", "q", "q"),
       ("g", "x", "y"), ("h", "x", "y")]
NEW = ("n", "0", "zzzzzz")


def turns(net):
    return [("turn", row) for row in every_row([tie for tie, one, other in net])]


def aparts(net):
    rows = every_row([tie for tie, one, other in net])
    names = [*points(net), *NEW[:1]]
    return [("apart", point, row, new) for row in rows for point in names for new in names[-3:]]


def togethers(net):
    return [("together", *two) for two in itertools.product([*points(net), "none"], repeat=2)]


def all_nets():
    yield from ([], NET[:6], NET, [("a", "p", "p")], [("a", "p", "p"), ("b", "p", "p")], [("a", "p", "q")])
    yield from chance_nets(27, 60, 5)


WORDS = {"turn": word_turn, "apart": word_apart, "together": word_together}


class Steps(unittest.TestCase):

    def look(self, net, step):
        """Holds one step against the words; tells whether it can be done."""
        told = WORDS[step[0]](net, *step[1:])
        if told is None:
            self.assertRaises(NoStep, step_done, net, step)
            return False
        self.assertEqual(step_done(net, step), told, (net, step))
        self.assertTrue(is_net(told), (net, step))
        return True

    def test_turns_against_the_words(self):
        done = [self.look(net, step) for net in all_nets() for step in turns(net)]
        self.assertGreater(sum(done), 200)

    def test_takings_apart_against_the_words(self):
        done = [self.look(net, step) for net in chance_nets(28, 60, 5) for step in aparts(net)]
        self.assertGreater(sum(done), 100)

    def test_layings_together_against_the_words(self):
        done = [self.look(net, step) for net in all_nets() for step in togethers(net)]
        self.assertGreater(sum(done), 100)

    def test_written_turns(self):
        ring = [("a", "1", "2"), ("b", "2", "3"), ("c", "3", "4"), ("d", "1", "4")]
        self.assertEqual(step_done(ring, ("turn", ["a", "b"])), [("a", "2", "3"), ("b", "1", "2"), ("c", "3", "4"),
                                                                 ("d", "1", "4")])
        self.assertEqual(step_done(ring, ("turn", ["a"])), ring)
        self.assertEqual(step_done(ring, ("turn", ["b", "c", "d"])), [("a", "1", "2"), ("b", "1", "3"),
                                                                     ("c", "3", "4"), ("d", "2", "4")])

    def test_a_turn_with_a_loop(self):
        net = [("a", "p", "q"), ("b", "p", "q"), ("c", "p", "p")]
        self.assertEqual(step_done(net, ("turn", ["a", "c"])), [("a", "p", "q"), ("b", "p", "q"), ("c", "q", "q")])
        self.assertRaises(NoStep, step_done, net, ("turn", ["c"]))
        self.assertEqual(step_done(net, ("apart", "p", ["c"], "n")), [("a", "p", "q"), ("b", "p", "q"),
                                                                      ("c", "n", "n")])

    def test_a_turn_of_ties_in_several_pieces(self):
        net = [("a", "p", "s"), ("b", "p", "q"), ("c", "p", "q"), ("d", "q", "t"), ("e", "x", "y")]
        self.assertEqual(step_done(net, ("turn", ["a", "d"])), [("a", "q", "s"), ("b", "p", "q"), ("c", "p", "q"),
                                                                ("d", "p", "t"), ("e", "x", "y")])
        self.assertEqual(step_done(net, ("turn", ["a", "d", "e"])), [("a", "q", "s"), ("b", "p", "q"),
                                                                     ("c", "p", "q"), ("d", "p", "t"), ("e", "x", "y")])

    def test_written_takings_apart(self):
        net = [("a", "p", "q"), ("b", "q", "r"), ("c", "q", "q"), ("d", "x", "x")]
        self.assertEqual(step_done(net, ("apart", "q", ["b"], "a")), [("a", "p", "q"), ("b", "a", "r"),
                                                                      ("c", "q", "q"), ("d", "x", "x")])
        self.assertEqual(step_done(net, ("apart", "q", ["b", "c"], "zz")), [("a", "p", "q"), ("b", "r", "zz"),
                                                                            ("c", "zz", "zz"), ("d", "x", "x")])
        for step in (("apart", "q", ["b"], "x"), ("apart", "q", ["b"], "q"), ("apart", "p", ["a"], "n"),
                     ("apart", "r", ["b"], "n"), ("apart", "q", ["a", "b", "c"], "n"), ("apart", "x", ["d"], "n"),
                     ("apart", "q", [], "n"), ("apart", "q", ["a", "b", "c", "d"], "n")):
            self.assertRaises(NoStep, step_done, net, step)

    def test_written_layings_together(self):
        net = [("a", "p", "q"), ("b", "r", "s"), ("c", "x", "x")]
        self.assertEqual(step_done(net, ("together", "s", "p")), [("a", "q", "s"), ("b", "r", "s"), ("c", "x", "x")])
        self.assertEqual(step_done(net, ("together", "p", "s")), [("a", "p", "q"), ("b", "p", "r"), ("c", "x", "x")])
        self.assertEqual(step_done(net, ("together", "p", "x")), [("a", "p", "q"), ("b", "r", "s"), ("c", "p", "p")])
        for step in (("together", "p", "q"), ("together", "p", "p"), ("together", "p", "n"), ("together", "n", "p"),
                     ("together", "x", "x"), ("together", "a", "b")):
            self.assertRaises(NoStep, step_done, net, step)


class Behind(unittest.TestCase):

    def done(self, net, steps):
        """The steps that can be done, each with the net behind it."""
        for step in steps:
            try:
                told = step_done(net, step)
            except NoStep:
                continue
            yield step, told

    def test_the_ties_and_the_table_stay(self):
        for net in all_nets():
            table = table_of(net)
            for step, told in self.done(net, [*turns(net), *aparts(net), *togethers(net)]):
                self.assertEqual(table_of(told), table, (net, step))

    def test_a_turn_done_again_undoes_itself(self):
        for net in all_nets():
            for step, told in self.done(net, turns(net)):
                self.assertEqual(step_done(told, step), net, (net, step))

    def test_together_undoes_apart(self):
        for net in all_nets():
            for step, told in self.done(net, aparts(net)):
                self.assertEqual(step_done(told, ("together", step[1], step[3])), net, (net, step))
                self.assertEqual(len(points(told)), len(points(net)) + 1)
                self.assertEqual(stars(step_done(told, ("together", step[3], step[1]))), stars(net), (net, step))


def wrong_things():
    """Things that are no steps on whatever net."""
    yield from (None, True, False, 0, 1, -7, "", "turn", "apart", "together", [], (), [[]], ((),), ([],), (None,))
    yield from (("turn",), ("apart",), ("together",), ("turn", None), ("turn", "a"), ("turn", ("a", "b")))
    yield from (["turn", ["b", "c"]], ("turn", ["b", "c"], None), ("turn", ["b", "c"], []), ("Turn", ["b", "c"]))
    yield from ((("turn", ["b", "c"]),), [("turn", ["b", "c"])], ("turn", [["b", "c"]]), ("turn", [("b", "c")]))
    yield from (("turn", ["c", "b"]), ("turn", ["b", "b"]), ("turn", ["b", "b", "c"]), ("turn", ["b", "c", "zz"]))
    yield from (("turn", ["b", "c", ""]), ("turn", [None, "b"]), ("turn", [1, 2]), ("turn", [True]), ("turn", 1))
    yield from (("turn", []), ("turn", list("abcdefgh")), ("turn", ["zz"]), ("turn", ["p", "q"]))
    yield from ((True, ["b", "c"]), (None, ["b", "c"]), (["turn"], ["b", "c"]), ("", ["b", "c"]), (1, ["b", "c"]))
    yield from (("turn", "b", "c"), ("together", ["p", "x"]), ("apart", "q", ["f"]), ("apart", "q", ["f"], "n", "n"))
    yield from (["apart", "q", ["f"], "n"], ["together", "p", "x"], ("together", "p", "x", "y"), ("together", "p"))
    for bad in ("", "N", "sevenup", "n n", "-", None, 1, True, ["n"], ("n",), [], (), [[[["n"]]]]):
        yield from (("apart", "q", ["f"], bad), ("apart", bad, ["f"], "n"), ("apart", "q", [bad], "n"))
        yield from (("together", "p", bad), ("together", bad, "p"), ("together", bad, bad), ("turn", [bad]))
        yield from (("apart", "q", bad, "n"), ("turn", bad), (bad, "p", "x"), (bad, ["b", "c"]))
    yield from (("apart", "q", "f", "n"), ("apart", "q", ("f",), "n"), ("apart", "q", ["f", "f"], "n"))
    yield from (("apart", ["q"], ["f"], "n"), ("apart", ("q",), ["f"], "n"), ("apart", "q", ["f"], "p"))
    yield from (("apart", "q", ["f"], "x"), ("apart", "q", ["f", "zz"], "n"), ("apart", "n", ["f"], "n"))
    yield from (("lay", "z", "p", "q"), ("take", "a"), ("shrink", "a"), ("same", []), ("part", "q", ["f"], "n"))
    yield ("turn", [[[[["b"]]]]])
    yield ("turn", ["b" + str(at) for at in range(390)])


class NoSteps(unittest.TestCase):

    def test_any_thing(self):
        for thing in wrong_things():
            with self.subTest(thing=thing):
                self.assertRaises(NoStep, step_done, NET, thing)
                self.assertRaises(NoStep, step_done, [], thing)
                self.assertRaises(RoundError, step_done, NET, thing)

    def test_the_right_ones_beside_them(self):
        for step in (("turn", ["b", "c"]), ("apart", "q", ["f"], "n"), ("together", "p", "x"), ("turn", ["a"])):
            self.assertTrue(is_net(step_done(NET, step)), step)


if __name__ == "__main__":
    unittest.main()
