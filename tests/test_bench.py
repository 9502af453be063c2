"""Point 32: benches."""

import copy
import itertools
import random
import unittest
from collections import Counter

from roundsalone.bench import Bench
from roundsalone.blocks import block_table, blocks
from roundsalone.errors import NoMatch, NoNet, NoStep, NoTie, RoundError, TooMany
from roundsalone.judging import judged
from roundsalone.nets import is_net, table_of
from roundsalone.parts import parts
from roundsalone.roads import road
from roundsalone.spans import crossed
from roundsalone.takings import shrunk, taken_out
from tests.brute import chance_nets, chance_step, grown_nets, spoil
from tests.papers import bounded_nets, five, lined, nets_off_the_ball, stands, three, wheel
from tests.things import any_thing, changed
from tests.words import leads, places_of, word_bench, word_deed

NET = [("a", "p", "q"), ("b", "p", "q"), ("c", "q", "r"), ("d", "r", "r")]
# Twelve ties, of which eight are steps.
FULL = lined(["12", "12", "12", "12", "12", "12", "12", "12", "12", "23", "34", "45"])


def told(deed, *things):
    """What is told, or the refusal."""
    try:
        return deed(*things)
    except RoundError as why:
        return type(why).__name__


class Begun(unittest.TestCase):

    def test_it_keeps_a_net(self):
        for net in [[], NET, FULL, *bounded_nets(chance_nets(121, 30, 12))]:
            self.assertEqual(Bench(net).net(), net)

    def test_what_is_no_net(self):
        for thing in (None, True, 0, "", "a p q", (), tuple(NET), [None], [()], [("a", "p")], [("a", "q", "p")],
                      [("a", "p", "q", "r")], [["a", "p", "q"]], NET[::-1], NET[:1] * 2, [("A", "p", "q")],
                      [("a", "p", "")], [("sevenup", "p", "q")], [("a", 1, 2)], [("a", ["p"], "q")], ("net", NET)):
            self.assertRaises(NoNet, Bench, thing)

    def test_too_many(self):
        for pairs in (["12"] * 10, ["11"] * 9, [f"{at}{at + 1}" for at in range(8)] + ["8a"], ["12", "23"] * 7,
                      ["12"] * 20):
            self.assertRaises(TooMany, Bench, lined(pairs))

    def test_no_net_ahead_of_too_many(self):
        self.assertRaises(NoNet, Bench, lined(["12"] * 20)[::-1])
        self.assertRaises(NoNet, Bench, lined(["12"] * 20) + [None])

    def test_any_thing(self):
        chance = random.Random(122)
        things = [any_thing(chance, 5) for turn in range(400)]
        things += [changed(chance, net, ["a", "p", "zz"]) for net in chance_nets(123, 200, 13)]
        answers = Counter()
        for thing in things:
            kept = copy.deepcopy(thing)
            answer = told(Bench, thing)
            answers[answer if isinstance(answer, str) else None] += 1
            self.assertEqual(answer if isinstance(answer, str) else None, word_bench(thing), thing)
            self.assertEqual(thing, kept)
        self.assertGreater(min(answers.values()), 4)
        self.assertEqual(set(answers), {None, "NoNet", "TooMany"})

    def test_the_list_handed_in_may_be_changed(self):
        mine = list(NET)
        bench = Bench(mine)
        mine.clear()
        self.assertEqual(bench.net(), NET)
        bench.do(("take", "a"))
        self.assertEqual(mine, [])

    def test_deeds_don_t_change_the_list_handed_in(self):
        mine = list(NET)
        bench = Bench(mine)
        for deed in (("lay", "z", "p", "n"), ("take", "a"), ("shrink", "c"), ("apart", "q", ["d"], "x")):
            bench.do(deed)
            self.assertEqual(mine, NET)
        self.assertNotEqual(bench.net(), NET)


class Deeds(unittest.TestCase):

    def done(self, net, *deeds):
        bench = Bench(net)
        for deed in deeds:
            self.assertIsNone(bench.do(deed))
        return bench.net()

    def refused(self, error, net, deed):
        bench = Bench(net)
        self.assertRaises(error, bench.do, deed)
        self.assertEqual(bench.net(), net)

    def look(self, net, deed):
        """Holds a deed against the words; tells the refusal, or None."""
        bench = Bench(net)
        kept = copy.deepcopy(deed)
        answer, words = told(bench.do, deed), word_deed(net, deed)
        self.assertEqual(answer, words if isinstance(words, str) else None, (net, deed))
        self.assertEqual(bench.net(), net if isinstance(words, str) else words, (net, deed))
        self.assertEqual(deed, kept)
        self.assertTrue(is_net(bench.net()))
        return answer

    def test_lays(self):
        self.assertEqual(self.done([], ("lay", "b", "q", "p"), ("lay", "a", "p", "p")), [("a", "p", "p"),
                                                                                        ("b", "p", "q")])
        self.assertEqual(self.done(NET, ("lay", "aa", "r", "p")), sorted(NET + [("aa", "p", "r")]))
        self.assertEqual(self.done(NET, ("lay", "z", "9", "10")), NET + [("z", "10", "9")])
        self.assertEqual(self.done(NET, ("lay", "p", "d", "d")), NET + [("p", "d", "d")])

    def test_lays_refused(self):
        for tie in ("a", "d", "", "A", "sevenup", "z z", "-", None, 1, True, [], ["z"], ("z",)):
            self.refused(NoTie, NET, ("lay", tie, "p", "q"))
        for point in ("", "P", "sevenup", "p q", "-", None, 0, False, [], ["p"], ("p",)):
            self.refused(NoTie, NET, ("lay", "z", point, "q"))
            self.refused(NoTie, NET, ("lay", "z", "p", point))
            self.refused(NoTie, NET, ("lay", "z", point, point))

    def test_a_lay_at_the_bounds(self):
        wide = lined(["11"] * 7)
        self.assertEqual(len(self.done(wide, ("lay", "z", "1", "1"))), 8)
        self.refused(TooMany, lined(["11"] * 8), ("lay", "z", "1", "1"))
        self.assertEqual(len(self.done(lined(["11"] * 8), ("lay", "z", "1", "2"))), 9)
        deep = lined([f"{at}{at + 1}" for at in range(8)])
        self.refused(TooMany, deep, ("lay", "z", "0", "x"))
        self.assertEqual(len(self.done(deep, ("lay", "z", "0", "8"))), 9)
        self.assertEqual(len(self.done(FULL[1:], ("lay", "a", "4", "5"))), 12)
        self.refused(TooMany, FULL, ("lay", "z", "1", "2"))
        self.refused(TooMany, FULL, ("lay", "z", "1", "x"))

    def test_no_tie_ahead_of_too_many(self):
        for deed in (("lay", "a", "1", "2"), ("lay", "A", "1", "2"), ("lay", "z", "", "2"), ("lay", "z", "1", None)):
            self.refused(NoTie, FULL, deed)

    def test_takes(self):
        self.assertEqual(self.done(NET, ("take", "a")), NET[1:])
        self.assertEqual(self.done(NET, ("take", "d"), ("take", "a"), ("take", "c"), ("take", "b")), [])
        for tie in ("z", "", "A", "p", None, 1, True, [], ["a"], ("a",), ()):
            self.refused(NoTie, NET, ("take", tie))
            self.refused(NoTie, NET, ("shrink", tie))
            self.refused(NoTie, [], ("take", tie))
            self.refused(NoTie, FULL, ("take", tie))

    def test_shrinks(self):
        self.assertEqual(self.done(NET, ("shrink", "a")), [("b", "p", "p"), ("c", "p", "r"), ("d", "r", "r")])
        self.assertEqual(self.done(NET, ("shrink", "c")), [("a", "p", "q"), ("b", "p", "q"), ("d", "q", "q")])
        self.assertEqual(self.done(NET, ("shrink", "d")), NET[:3])
        self.assertEqual(self.done([("a", "10", "9"), ("b", "9", "a")], ("shrink", "a")), [("b", "10", "a")])
        self.assertEqual(self.done([("a", "p", "q")], ("shrink", "a")), [])
        self.assertEqual(self.done([("a", "p", "r"), ("b", "q", "r")], ("shrink", "a")), [("b", "p", "q")])

    def test_steps(self):
        self.assertEqual(self.done(NET, ("apart", "r", ["d"], "n")), NET[:3] + [("d", "n", "n")])
        self.assertEqual(self.done(NET, ("apart", "r", ["d"], "n"), ("together", "n", "p"))[3], ("d", "n", "n"))
        self.assertEqual(self.done(NET, ("turn", ["a", "c", "d"])), [("a", "p", "q"), ("b", "p", "q"), ("c", "p", "r"),
                                                                     ("d", "r", "r")])
        for deed in (("turn", ["c", "d"]), ("turn", ["z"]), ("turn", ["b", "a"]), ("turn", []), ("turn", "a"),
                     ("apart", "r", ["d"], "p"), ("apart", "r", ["z"], "n"), ("apart", "q", ["d"], "n"),
                     ("apart", "r", ["d"], ""), ("together", "p", "q"), ("together", "p", "z"), ("together", "", "p")):
            self.refused(NoStep, NET, deed)

    def test_what_is_no_deed(self):
        for thing in (None, True, 0, "", "take", "take a", [], (), ["take", "a"], ("take",), ("take", "a", "b"),
                      ("lay", "z", "p"), ("lay", "z", "p", "q", "r"), ("lay",), ("shrink",), ("shrink", "a", "b"),
                      ["lay", "z", "p", "q"], ("Take", "a"), ("drop", "a"), (("take", "a"),), [("take", "a")],
                      (None, "a"), (["take"], "a"), ("turn",), ("keep", "a"), ("take", "a", None), (True, "a")):
            self.refused(NoStep, NET, thing)

    def chance_deed(self, chance, net):
        ties = [tie for tie, one, other in net] + ["zz", "n1"]
        spots = places_of(net) + ["n", "m"]
        deed = chance.choice(["lay", "lay", "take", "shrink", "turn", "apart", "together"])
        if deed == "lay":
            return (deed, chance.choice([f"t{chance.randrange(30)}", chance.choice(ties)]), *chance.choices(spots, k=2))
        if deed in ("take", "shrink"):
            return (deed, chance.choice(ties))
        return chance_step(chance, net, deed) if net else (deed, [])

    def test_deeds_one_after_the_other(self):
        chance = random.Random(124)
        answers = Counter()
        for net in bounded_nets([*chance_nets(125, 25, 11), *grown_nets(126, 25, 11)]):
            bench, now = Bench(net), net
            for turn in range(20):
                deed = self.chance_deed(chance, now)
                if chance.random() < 0.15:
                    deed = changed(chance, deed, [part for tie in now for part in tie])
                answer, words = told(bench.do, deed), word_deed(now, deed)
                self.assertEqual(answer, words if isinstance(words, str) else None, (now, deed))
                answers[deed[0] if answer is None else answer] += 1
                now = now if isinstance(words, str) else words
                self.assertEqual(bench.net(), now)
                self.assertEqual(bench.table(), table_of(now))
        for word in ("lay", "take", "shrink", "turn", "apart", "together", "NoTie", "NoStep", "TooMany"):
            self.assertGreater(answers[word], 5, answers)

    def test_any_thing(self):
        chance = random.Random(127)
        for turn in range(600):
            self.look(NET, any_thing(chance, 5))
            self.look(NET, (chance.choice(["lay", "take", "shrink", "turn"]),
                            *[any_thing(chance, 3) for part in range(chance.randrange(4))]))

    def test_deeds_changed(self):
        chance = random.Random(128)
        deeds = [("lay", "z", "p", "n"), ("take", "a"), ("shrink", "c"), ("turn", ["a", "c", "d"]),
                 ("apart", "r", ["d"], "n"), ("together", "p", "q")]
        for deed in deeds:
            self.look(NET, deed)
            for turn in range(150):
                self.look(NET, changed(chance, deed, ["a", "b", "c", "d", "z", "p", "q", "r", "n", deed[0]]))

    def test_takes_and_shrinks_of_all_ties(self):
        for net in [NET, FULL, five(), *bounded_nets(chance_nets(129, 20, 12))]:
            for tie, one, other in net:
                self.look(net, ("take", tie))
                self.look(net, ("shrink", tie))

    def test_the_table_behind_a_take_and_a_shrink(self):
        for net in [NET, FULL, five(), *bounded_nets(chance_nets(130, 20, 10))]:
            for tie, one, other in net:
                self.assertEqual(table_of(self.done(net, ("take", tie))), taken_out(table_of(net), tie))
                self.assertEqual(table_of(self.done(net, ("shrink", tie))), shrunk(table_of(net), tie))

    def test_all_turns_of_two_ties(self):
        net = lined(["12", "23", "34", "14", "13", "11"])
        for ties in itertools.product("abcdefz", repeat=2):
            self.look(net, ("turn", list(ties)))


class Told(unittest.TestCase):

    def nets(self):
        return [[], NET, FULL, five(), three(), wheel(4), *bounded_nets([*chance_nets(131, 10, 12),
                                                                         *grown_nets(132, 10, 12)])]

    def test_its_table(self):
        for net in self.nets():
            self.assertEqual(Bench(net).table(), table_of(net))

    def test_its_parts(self):
        self.assertEqual(Bench([]).parts(), [])
        self.assertEqual(Bench(NET).parts(), [[("ring", [["a"], ["b"]])], [("bridge", [["c"]])], [("loop", [["d"]])]])
        for net in self.nets():
            table = table_of(net)
            self.assertEqual(Bench(net).parts(), [parts(block_table(table, block)) for block in blocks(table)])

    def test_its_crossed_table_judged(self):
        self.assertEqual(Bench([]).crossed(), ("net", []))
        self.assertEqual(Bench(five()).crossed()[:2], ("small", "five"))
        self.assertEqual(Bench(three()).crossed()[:2], ("small", "three"))
        for net in [*self.nets(), *nets_off_the_ball(133, 4)]:
            self.assertEqual(Bench(net).crossed(), judged(crossed(table_of(net))))
            self.assertTrue(stands(crossed(table_of(net)), Bench(net).crossed()))

    def test_its_road(self):
        for net in self.nets():
            bench = Bench(net)
            self.assertEqual(bench.road(net), road(net, net))
            self.assertTrue(leads(net, net, bench.road(net)[1]))
            self.assertRaises(NoMatch, bench.road, net + [("zzz", "p", "q")])

    def test_its_road_to_what_it_was(self):
        chance = random.Random(134)
        for net in bounded_nets(grown_nets(135, 15, 10)):
            bench = Bench(net)
            for turn in range(10):
                told(bench.do, chance_step(chance, bench.net(), chance.choice(["turn", "apart", "together"])))
            answer = bench.road(net)
            self.assertEqual(answer[0], "same")
            self.assertTrue(leads(bench.net(), net, answer[1]))
            back = Bench(net)
            for step in road(net, bench.net())[1]:
                back.do(step)
            self.assertTrue(leads(back.net(), bench.net(), []))

    def test_its_road_behind_a_lay_and_a_take(self):
        bench = Bench(NET)
        bench.do(("take", "a"))
        self.assertRaises(NoMatch, bench.road, NET)
        bench.do(("lay", "a", "q", "r"))
        self.assertEqual(bench.road(NET)[0], "unlike")
        bench.do(("take", "a"))
        bench.do(("lay", "a", "q", "p"))
        self.assertEqual(bench.road(NET)[0], "same")

    def test_all_is_told_of_the_net_as_it_is_now(self):
        bench = Bench(five())
        self.assertEqual(bench.crossed()[0], "small")
        bench.do(("take", "a"))
        self.assertEqual(bench.crossed()[0], "net")
        self.assertEqual(bench.table(), table_of(five()[1:]))
        self.assertEqual(bench.parts(), Bench(five()[1:]).parts())

    def test_lists_told_are_the_asker_s_own(self):
        for net in self.nets():
            bench = Bench(net)
            for ask in (bench.net, bench.table, bench.parts, bench.crossed, lambda: bench.road(net)):
                first = copy.deepcopy(ask())
                spoil(ask())
                self.assertEqual(ask(), first)
                self.assertEqual(bench.net(), net)

    def test_what_is_handed_to_a_road_stays(self):
        other = list(NET)
        Bench(NET).road(other)
        self.assertEqual(other, NET)

    def test_lists_in_deeds_may_be_changed(self):
        bench = Bench(NET)
        ties = ["d"]
        bench.do(("apart", "r", ties, "n"))
        ties.append("a")
        self.assertEqual(bench.net(), NET[:3] + [("d", "n", "n")])

    def test_several_benches_side_by_side(self):
        one, other, third = Bench(NET), Bench(NET), Bench([])
        one.do(("take", "a"))
        other.do(("lay", "z", "p", "q"))
        third.do(("lay", "a", "p", "q"))
        self.assertEqual(one.net(), NET[1:])
        self.assertEqual(other.net(), NET + [("z", "p", "q")])
        self.assertEqual(third.net(), [("a", "p", "q")])
        self.assertEqual(Bench(one.net()).net(), one.net())


if __name__ == "__main__":
    unittest.main()
