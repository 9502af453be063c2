"""Points 1 to 4 over the whole program, and the interface."""

import copy
import importlib
import inspect
import random
import unittest

from roundsalone.ball import crossed_net, laid
from roundsalone.bench import Bench
from roundsalone.blocks import block_table, blocks, is_parting
from roundsalone.desk import Desk
from roundsalone.houses import even_sets, rank, rounds, walls
from roundsalone.judging import judged
from roundsalone.looker import lays, leads, stands
from roundsalone.nets import is_net, pieces, points, stars, table_of
from roundsalone.parts import part_table, parts
from roundsalone.quiet import quiet_ones
from roundsalone.reading import read
from roundsalone.roads import road
from roundsalone.spans import alike, crossed, is_table, steps, within
from roundsalone.steps import step_done
from roundsalone.takings import left, shrunk, taken_out
from roundsalone.texts import read_net, read_table, show_net, show_row, show_table
from roundsalone.woods import cut, walk, wood
from tests import papers
from tests.brute import chance_nets, chance_tables, grown_nets, one_block_tables, other_rows
from tests.papers import bounded_nets, five, grown_small_ones, nets_off_the_ball, small_ones, tables_at_the_bounds

INTERFACE = {
    "rows": {"is_name": 1, "is_row": 1, "summed": 1, "meets_evenly": 2},
    "spans": {"is_table": 1, "steps": 1, "within": 2, "crossed": 1, "alike": 2},
    "houses": {"even_sets": 1, "rounds": 1, "walls": 1, "rank": 2},
    "takings": {"taken_out": 2, "shrunk": 2, "left": 3},
    "nets": {"is_net": 1, "points": 1, "star": 2, "stars": 1, "pieces": 1, "table_of": 1},
    "woods": {"wood": 1, "cut": 2, "walk": 2},
    "blocks": {"blocks": 1, "block_table": 2, "is_parting": 2, "crosses": 3},
    "parts": {"parts": 1, "part_table": 2},
    "steps": {"step_done": 2},
    "roads": {"road": 2},
    "quiet": {"quiet_ones": 1},
    "reading": {"read": 1},
    "judging": {"judged": 1},
    "ball": {"crossed_net": 1, "laid": 1},
    "looker": {"stands": 2, "leads": 3, "lays": 2},
    "texts": {"show_row": 1, "show_table": 1, "show_net": 1, "read_table": 1, "read_net": 1},
    "bench": {"Bench": 1},
    "desk": {"Desk": 0},
}
METHODS = {Bench: {"do": 2, "net": 1, "table": 1, "parts": 1, "crossed": 1, "road": 2}, Desk: {"say": 2}}


class Interface(unittest.TestCase):

    def test_all_is_there(self):
        for module, names in INTERFACE.items():
            held = importlib.import_module(f"roundsalone.{module}")
            for name, many in names.items():
                self.assertEqual(len(inspect.signature(getattr(held, name)).parameters), many, (module, name))

    def test_methods(self):
        for held, names in METHODS.items():
            for name, many in names.items():
                self.assertEqual(len(inspect.signature(getattr(held, name)).parameters), many, name)


def some_tables(seed):
    yield from small_ones().values()
    yield from grown_small_ones(seed, 4)
    yield from tables_at_the_bounds(seed, 4)
    yield from (table for table in chance_tables(seed, 8, 8))
    yield from (([], []), (["a"], [["a"]]))


def some_nets(seed):
    return [[], five(), *bounded_nets([*chance_nets(seed, 8, 12), *grown_nets(seed, 8, 12)]),
            *nets_off_the_ball(seed, 4)]


def questions(seed):
    """Functions with what is handed in to them."""
    for table in some_tables(seed):
        names = table[0]
        for ask in (steps, crossed, even_sets, rounds, walls, blocks, read, judged, show_table, is_table):
            yield ask, (table,)
        yield from ((ask, (table, names[1:])) for ask in (within, rank))
        yield from ((left, (table, names[:1], names[1:2])), (alike, (table, crossed(table))))
        yield from ((ask, (table, name)) for ask in (taken_out, shrunk) for name in names[:2])
        yield stands, (table, judged(table))
    for table in one_block_tables(chance_tables(seed, 8, 7)):
        yield from ((parts, (table,)), (quiet_ones, (table,)), (is_parting, (table, table[0][:2])))
    nets = some_nets(seed)
    for net, other in zip(nets, nets[1:] + nets[:1]):
        for ask in (points, stars, pieces, table_of, wood, crossed_net, laid, is_net, show_net):
            yield ask, (net,)
        yield from ((road, (net, net)), (cut, (net, points(net)[:2])), (leads, (net, net, road(net, net)[1])))
        yield from ((lays, (net, laid(net)[1])), (stands, (table_of(other), ("net", net))))


class NothingHangsOnWhatWasAskedAhead(unittest.TestCase):

    def test_in_whatever_order(self):
        asked = list(questions(161))
        first = [copy.deepcopy(ask(*handed)) for ask, handed in asked]
        order = list(range(len(asked)))
        random.Random(162).shuffle(order)
        for at in order:
            ask, handed = asked[at]
            self.assertEqual(ask(*handed), first[at], (ask, handed))

    def test_what_was_handed_in_is_all_the_same(self):
        asked = list(questions(163))
        kept = copy.deepcopy(asked)
        for ask, handed in asked:
            ask(*handed)
        self.assertEqual(asked, kept)


class HandedInAgain(unittest.TestCase):
    """What one function tells is handed in to the others."""

    def test_tables(self):
        for table in some_tables(164):
            for told in (crossed(table), left(table, table[0][:1], table[0][1:2]), read_table(show_table(table))):
                self.assertTrue(is_table(told) or not is_table(table))
                self.assertEqual(left(told, [], []), left(crossed(crossed(told)), [], []))
                self.assertTrue(stands(told, judged(told)))
            for row in rounds(table) + walls(table):
                self.assertIn(within(table, row)[0], ("within", "without"))
                self.assertLess(rank(crossed(table), row), len(row) + 1)

    def test_nets_read(self):
        for table in some_tables(165):
            net = read(table)
            if net is not None:
                self.assertTrue(alike(table_of(net), table))
                self.assertEqual(read_net(show_net(net)), net)
                self.assertTrue(leads(net, net, road(net, net)[1]))
                bench = Bench(net)
                self.assertEqual(bench.table(), crossed(crossed(table)))
                self.assertEqual(judged(table), ("net", net))

    def test_what_nets_tell(self):
        for net in some_nets(166):
            table = table_of(net)
            for row in rounds(table):
                self.assertEqual(sorted(tie for tie, start, end in walk(net, row)), row)
            for block in blocks(table):
                inner = block_table(table, block)
                self.assertEqual(blocks(inner), [block])
                for kind, share in parts(inner):
                    self.assertEqual(len(blocks(part_table(inner, share))), 1)
                self.assertTrue(stands(inner, judged(inner)))
            told = laid(net)
            if told[0] == "laid":
                other = crossed_net(net)
                self.assertTrue(lays(net, told[1]))
                self.assertTrue(lays(other, laid(other)[1]))
                self.assertTrue(stands(crossed(table), ("net", other)))
            else:
                word, kind, taken, gone, small = told
                self.assertTrue(stands(crossed(table), (word, kind, gone, taken, small)))
                self.assertEqual(laid(small)[:2], (word, kind))
                self.assertTrue(alike(left(table, taken, gone), table_of(small)))

    def test_roads_are_deeds_of_a_bench(self):
        for net in some_nets(167):
            other = read(table_of(net))
            bench = Bench(net)
            told = bench.road(other)
            self.assertEqual(told[0], "same")
            for step in told[1]:
                bench.do(step)
            self.assertEqual(stars(bench.net()), stars(other))
            self.assertEqual(bench.table(), table_of(net))

    def test_a_desk_tells_what_a_desk_can_be_told(self):
        for net in some_nets(168):
            desk = Desk()
            desk.say(f"keep x {show_net(net)}")
            desk.say(f"read y {desk.say('table x')}")
            desk.say(f"keep z {desk.say('show y')}")
            self.assertEqual(desk.say("same x y"), "same")
            self.assertEqual(desk.say("same z x"), "same")
            self.assertEqual(desk.say(f"judge {desk.say('table x')}"), f"net {desk.say('show y')}")

    def test_steps_told_are_done_by_hand(self):
        for net in some_nets(169):
            other = read(table_of(net))
            now = net
            for step in road(net, other)[1]:
                now = step_done(now, step)
            self.assertTrue(leads(now, other, []))


class OnTheSpanAlone(unittest.TestCase):

    def test_by_other_rows_the_same_is_told(self):
        for seed, table in enumerate(some_tables(170)):
            if table[1]:
                other = other_rows(table, seed)
                for ask in (steps, crossed, even_sets, rounds, walls, blocks, read, judged):
                    self.assertEqual(ask(table), ask(other), (ask, table))
                self.assertEqual(rank(table, table[0][1:]), rank(other, table[0][1:]))
                for block in blocks(table):
                    inner = block_table(table, block)
                    self.assertEqual(parts(inner), parts(block_table(other, block)))


class ThePromise(unittest.TestCase):

    def test_a_net_just_where_no_small_table_is_left(self):
        for table in some_tables(171):
            paper = judged(table)
            self.assertTrue(papers.stands(table, paper) and stands(table, paper))
            # Takings and shrinkings of a net's table leave a net's, so none of them leaves a small one.
            if paper[0] == "net":
                for name in table[0]:
                    self.assertIsNotNone(read(taken_out(table, name)))
                    self.assertIsNotNone(read(shrunk(table, name)))

    def test_of_a_small_table_one_name_less_is_a_net_s(self):
        for table in small_ones().values():
            for name in table[0]:
                self.assertIsNotNone(read(taken_out(table, name)))
                self.assertIsNotNone(read(shrunk(table, name)))

    def test_walls_are_the_rounds_of_a_net_just_where_it_is_laid(self):
        for net in some_nets(172):
            other = crossed_net(net)
            self.assertEqual(other is not None, laid(net)[0] == "laid")
            if other is not None:
                self.assertEqual(rounds(table_of(other)), walls(table_of(net)))
                self.assertEqual(walls(table_of(other)), rounds(table_of(net)))

    def test_rows_are_shown_as_they_are(self):
        self.assertEqual([show_row(row) for row in rounds((["a", "b"], [["a"], ["b"]]))], ["a", "b"])


if __name__ == "__main__":
    unittest.main()
