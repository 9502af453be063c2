"""Points 30 and 4: the looker."""

import ast
import copy
import itertools
import pathlib
import random
import unittest
from collections import Counter

from roundsalone.ball import laid
from roundsalone.errors import NoStep
from roundsalone.judging import judged
from roundsalone.looker import lays, leads, stands
from roundsalone.nets import table_of
from roundsalone.roads import road
from roundsalone.spans import crossed
from roundsalone.steps import step_done
from tests import papers, words
from tests.brute import chance_nets, chance_step, chance_tables, grown_nets, lumps
from tests.papers import (blocks_grown, bounded_nets, five, grown_small_ones, lined, nets_off_the_ball, small_ones,
                          table_of_net, tables_at_the_bounds, three, wheel)
from tests.things import any_thing, changed

KINDS = ["seven", "crossed seven", "five", "three"]


def some_tables():
    yield from small_ones().values()
    yield from grown_small_ones(81, 14)
    yield from (table_of_net(net) for net in bounded_nets([*chance_nets(82, 8, 12), *grown_nets(83, 8, 12)]))
    yield from tables_at_the_bounds(84, 8)
    yield from chance_tables(85, 8, 7)
    yield from (([], []), (["a"], []), (["a"], [["a"]]))


def smalls():
    """Tables of which a small one is left, with their papers."""
    return [(table, judged(table)) for table in [*small_ones().values(), *grown_small_ones(86, 14)]]


def with_part(paper, at, new):
    return (*paper[:at], new, *paper[at + 1:])


class Stands(unittest.TestCase):

    def look(self, table, paper):
        """Holds the looker against the words, and tells what it says."""
        kept = copy.deepcopy((table, paper))
        told = stands(table, paper)
        self.assertIs(told, papers.stands(table, paper), (table, paper))
        self.assertEqual((table, paper), kept)
        return told

    def test_what_is_judged_stands(self):
        kinds = Counter()
        for table in some_tables():
            paper = judged(table)
            self.assertTrue(self.look(table, paper), (table, paper))
            kinds[paper[0] if paper[0] == "net" else paper[1]] += 1
        self.assertEqual(set(kinds), {"net", *KINDS})

    def test_of_another_table_it_is_looked_at_anew(self):
        tables = list(small_ones().values()) + [table_of(wheel(3)), table_of(wheel(4)), ([], [])]
        for one, other in itertools.product(tables, repeat=2):
            self.look(one, judged(other))
            self.look(crossed(one), judged(other))

    def test_papers_changed_by_chance(self):
        chance = random.Random(87)
        told = Counter()
        for table in some_tables():
            paper = judged(table)
            stock = [*table[0], *KINDS, "0", "1", "2", "3"]
            for turn in range(25):
                told[self.look(table, changed(chance, paper, stock))] += 1
        self.assertGreater(told[False], 500)
        self.assertGreater(told[True], 20)

    def test_another_kind(self):
        for table, paper in smalls():
            for kind in [*KINDS, "net", "small", "crossed", "crossed five", "", None, 7, ["seven"], ("five",), True]:
                self.assertEqual(self.look(table, with_part(paper, 1, kind)), kind == paper[1])

    def test_names_of_taken_and_shrunk(self):
        for table, paper in smalls():
            word, kind, taken, shrunk, told = paper
            gone = taken + shrunk
            for name in [*table[0], "zzz", "A", "", None, 1, ["a"]]:
                for at in (2, 3):
                    if isinstance(name, str) and name not in paper[at]:
                        self.assertFalse(self.look(table, with_part(paper, at, sorted(paper[at] + [name]))))
                    self.assertFalse(self.look(table, with_part(paper, at, paper[at] + [name])))
                    self.look(table, with_part(paper, at, [one for one in paper[at] if one != name]))
            for at in (2, 3):
                self.assertFalse(self.look(table, with_part(paper, at, tuple(paper[at]))))
                if len(paper[at]) > 1:
                    self.assertFalse(self.look(table, with_part(paper, at, paper[at][::-1])))
            self.look(table, (word, kind, shrunk, taken, told))
            self.look(table, (word, kind, sorted(gone), [], told))
            self.look(table, (word, kind, [], sorted(gone), told))
            if gone:
                self.assertFalse(self.look(table, (word, kind, sorted(gone), sorted(gone), told)))

    def test_a_name_moved_from_one_to_the_other_may_stand_still(self):
        # A loop, and a bridge, may be taken out as well as shrunk.
        names, rows = small_ones()["seven"]
        for table in ((names + ["x"], rows), (names + ["x"], rows + [["x"]])):
            told = judged(table)[4]
            self.assertTrue(self.look(table, ("small", "seven", ["x"], [], told)))
            self.assertTrue(self.look(table, ("small", "seven", [], ["x"], told)))
            self.assertFalse(self.look(table, ("small", "seven", [], [], told)))

    def test_numbers(self):
        for kind in ("seven", "crossed seven"):
            table = small_ones()[kind]
            told = judged(table)[4]
            papers_told = Counter()
            for numbers in itertools.islice(itertools.permutations(range(1, 8)), 0, None, 23):
                paper = ("small", kind, [], [], list(zip("abcdefg", numbers)))
                papers_told[self.look(table, paper)] += 1
            self.assertGreater(min(papers_told[True], papers_told[False]), 2)
            for at, (name, number) in enumerate(told):
                for new in (0, 8, number + 1, -number, True, None, str(number), [number]):
                    other = told[:at] + [(name, new)] + told[at + 1:]
                    self.assertFalse(self.look(table, ("small", kind, [], [], other)), other)

    def test_a_truth_is_no_number(self):
        table = small_ones()["seven"]
        told = [(name, True if number == 1 else number) for name, number in judged(table)[4]]
        self.assertFalse(self.look(table, ("small", "seven", [], [], told)))

    def test_the_naming_of_seven_in_another_form(self):
        table = small_ones()["seven"]
        told = judged(table)[4]
        for other in (told[::-1], told[:-1], told + [("h", 8)], tuple(told), [list(one) for one in told],
                      [(number, name) for name, number in told], [(name, number, 0) for name, number in told],
                      [name for name, number in told], [number for name, number in told], [], None, told + told[-1:]):
            self.assertFalse(self.look(table, ("small", "seven", [], [], other)), other)

    def test_nets_told_of_five_and_three(self):
        for kind in ("five", "three"):
            table = small_ones()[kind]
            net = judged(table)[4]
            calls = dict(zip("012345", ["q", "a1", "p", "9", "zz", "10"]))
            other = [(tie, *sorted([calls[one], calls[end]])) for tie, one, end in net]
            self.assertTrue(self.look(table, ("small", kind, [], [], other)))
            wrong = [net[1:], net[:-1], net + [("z", "0", "1")], net[::-1], tuple(net), [list(tie) for tie in net],
                     [(tie, end, one) for tie, one, end in net], net[:-1] + [(net[-1][0], "0", "0")], [], None]
            for other in wrong:
                self.assertFalse(self.look(table, ("small", kind, [], [], other)), other)

    def test_the_net_told_may_not_have_more_than_five_points(self):
        # With a loop beside it this is still no small table, though its table is alike to what is left.
        for kind, net in (("five", five()), ("three", three())):
            for more in (("x", "1", "1"), ("x", "7", "7"), ("x", "7", "8"), ("x", "1", "8")):
                other = net + [more]
                table = crossed(table_of(other))
                self.assertFalse(self.look(table, ("small", kind, [], [], other)), other)

    def test_the_net_told_may_not_have_fewer_points(self):
        # All tied to each, or some to each of the others, but not five, and not three and three.
        for many in (0, 1, 2, 3, 4):
            net = lined(itertools.combinations(range(many), 2))
            self.assertFalse(self.look(crossed(table_of(net)), ("small", "five", [], [], net)), net)
            self.assertFalse(self.look(crossed(table_of(net)), ("small", "three", [], [], net)), net)
        for some, others in ((1, 5), (5, 1), (2, 4), (4, 2), (2, 3), (2, 2), (1, 1), (3, 2)):
            net = lined(itertools.product("123456"[:some], "abcdef"[:others]))
            self.assertFalse(self.look(crossed(table_of(net)), ("small", "three", [], [], net)), net)
            self.assertFalse(self.look(crossed(table_of(net)), ("small", "five", [], [], net)), net)

    def test_other_nets_of_six_points_and_nine_ties(self):
        prism = lined(["12", "23", "13", "45", "56", "46", "14", "25", "36"])
        for net in (prism, lined(["14", "15", "16", "24", "25", "26", "34", "35", "35"])):
            self.assertFalse(self.look(crossed(table_of(net)), ("small", "three", [], [], net)), net)

    def test_nets(self):
        for net in bounded_nets([*chance_nets(88, 20, 9), *grown_nets(89, 20, 9)]):
            table = table_of_net(net)
            self.assertTrue(self.look(table, ("net", net)))
            for point in lumps(net, []):
                self.look(table, ("net", [tie for tie in net if tie[0] not in point]))
            for at in range(len(net)):
                tie, one, other = net[at]
                for new in ((tie, one, one), (tie, "0new", one), (tie, other, one), (tie, one), [tie, one, other],
                            (tie, one, other, other), ("zzz", one, other)):
                    self.look(table, ("net", net[:at] + [new] + net[at + 1:]))
            for paper in (["net", net], ("net", net, net), ("net",), (net,), net, ("nets", net), ("small", net),
                          ("net", tuple(net)), ("net", net[::-1] + [None]), ("net", table)):
                self.assertFalse(self.look(table, paper))

    def test_a_part_more_or_less(self):
        for table, paper in smalls():
            for other in (paper[:4], paper[1:], (*paper, []), (*paper, None), list(paper), (paper,), [paper],
                          with_part(paper, 0, "net"), with_part(paper, 0, None), paper[4], paper[:2]):
                self.assertFalse(self.look(table, other))

    def test_any_thing(self):
        chance = random.Random(90)
        tables = [*small_ones().values(), ([], []), (["a"], []), table_of(wheel(3))]
        for turn in range(1500):
            self.look(chance.choice(tables), any_thing(chance, 5))
        for word in ("net", "small"):
            for turn in range(300):
                things = [any_thing(chance, 4) for place in range(4)]
                self.look(tables[0], (word, things[0]))
                self.look(tables[0], (word, chance.choice(KINDS), *things[1:]))
                self.look(tables[0], (word, chance.choice(KINDS), [], [], things[0]))

    def test_never_both(self):
        for table in [*small_ones().values(), *grown_small_ones(91, 6)]:
            names = table[0]
            for net in chance_nets(92, 20, 12):
                self.assertFalse(stands(table, ("net", net)))
                self.assertFalse(stands(table, ("net", [(tie, *ends) for tie, (old, *ends) in zip(names, net)])))


class Leads(unittest.TestCase):

    def look(self, one, other, thing):
        kept = copy.deepcopy((one, other, thing))
        told = leads(one, other, thing)
        self.assertIs(told, words.leads(one, other, thing), (one, other, thing))
        self.assertEqual((one, other, thing), kept)
        return told

    def pairs(self, seed, many):
        """Nets, each with another one that some steps lead it to."""
        chance = random.Random(seed)
        for net in bounded_nets([*grown_nets(seed, many, 10), *blocks_grown(seed, many, 10)]):
            other = net
            for turn in range(12):
                try:
                    other = step_done(other, chance_step(chance, other, chance.choice(["turn", "apart", "together"])))
                except NoStep:
                    pass
            yield net, other

    def test_what_is_told_leads(self):
        for one, other in self.pairs(93, 12):
            self.assertTrue(self.look(one, other, road(one, other)[1]))
            self.assertTrue(self.look(other, one, road(other, one)[1]))
            self.assertTrue(self.look(one, one, []))

    def test_no_ties(self):
        self.assertTrue(leads([], [], []))
        self.assertFalse(leads([], [], [("turn", [])]))

    def test_where_no_step_is_needed(self):
        one = [("a", "p", "q"), ("b", "p", "q")]
        self.assertTrue(leads(one, [("a", "1", "2"), ("b", "1", "2")], []))
        self.assertFalse(leads(one, [("a", "1", "2"), ("b", "2", "3")], []))
        self.assertFalse(leads(one, [("a", "1", "2")], []))
        self.assertFalse(leads(one, [("a", "1", "2"), ("c", "1", "2")], []))

    def test_steps_changed(self):
        chance = random.Random(94)
        told = Counter()
        for one, other in self.pairs(95, 10):
            steps = road(one, other)[1]
            stock = [part for tie in one for part in tie] + ["turn", "apart", "together"]
            for at in range(len(steps)):
                told[self.look(one, other, steps[:at] + steps[at + 1:])] += 1
                told[self.look(one, other, steps[:at] + steps[at:at + 1] + steps[at:])] += 1
                told[self.look(one, other, steps[:at] + steps[at + 1:] + [steps[at]])] += 1
                told[self.look(one, other, steps[:at] + [list(steps[at])] + steps[at + 1:])] += 1
            for turn in range(20):
                told[self.look(one, other, changed(chance, steps, stock))] += 1
            told[self.look(one, other, steps[::-1])] += 1
            told[self.look(one, other, tuple(steps))] += 1
        self.assertGreater(min(told[True], told[False]), 20)

    def test_four_hundred_steps_and_more(self):
        ring = lined(["12", "23", "34", "14"])
        turned = step_done(ring, ("turn", ["a", "b"]))
        self.assertTrue(self.look(ring, ring, [("turn", ["a", "b"])] * 400))
        self.assertTrue(self.look(ring, turned, [("turn", ["a", "b"])] * 399))
        self.assertFalse(self.look(ring, turned, [("turn", ["a", "b"])] * 400))
        # A road is a list of at most four hundred steps.
        self.assertFalse(self.look(ring, turned, [("turn", ["a", "b"])] * 401))
        self.assertFalse(self.look(ring, ring, [("turn", ["a", "b"])] * 500))

    def test_any_thing(self):
        chance = random.Random(96)
        for one, other in self.pairs(97, 3):
            for turn in range(200):
                self.look(one, other, any_thing(chance, 5))
                self.look(one, other, [any_thing(chance, 4)])
                self.look(one, other, [(chance.choice(["turn", "apart", "together"]), *any_things(chance))])


def any_things(chance):
    return [any_thing(chance, 3) for turn in range(chance.randrange(4))]


class Lays(unittest.TestCase):

    def look(self, net, lists):
        kept = copy.deepcopy((net, lists))
        told = lays(net, lists)
        self.assertIs(told, papers.lays(net, lists), (net, lists))
        self.assertEqual((net, lists), kept)
        return told

    def nets(self):
        yield from ([], [("a", "p", "p")], [("a", "p", "q")], lined(["11", "11", "12"]), wheel(4), wheel(6))
        yield from (lined(["12", "12", "23", "13", "33", "45", "46", "56", "77"]), lined(["11", "22", "33", "44"]))
        yield from bounded_nets(grown_nets(98, 12, 12)) + blocks_grown(99, 12, 12)

    def test_what_is_laid(self):
        for net in self.nets():
            self.assertTrue(self.look(net, laid(net)[1]), net)

    def test_from_any_tie_on_and_the_other_way_about(self):
        for net in self.nets():
            lists = laid(net)[1]
            self.assertTrue(self.look(net, [(point, ties[1:] + ties[:1]) for point, ties in lists]))
            self.assertTrue(self.look(net, [(point, ties[::-1]) for point, ties in lists]))

    def test_two_ties_changed_about(self):
        told = Counter()
        for net in self.nets():
            lists = laid(net)[1]
            for at, (point, ties) in enumerate(lists):
                for one, other in itertools.combinations(range(len(ties)), 2):
                    mixed = list(ties)
                    mixed[one], mixed[other] = ties[other], ties[one]
                    told[self.look(net, lists[:at] + [(point, mixed)] + lists[at + 1:])] += 1
        self.assertGreater(min(told[True], told[False]), 20)

    def test_another_form(self):
        for net in self.nets():
            lists = laid(net)[1]
            forms = [lists + [("zzz", [])], lists + [None], tuple(lists), ("laid", lists), [lists], None]
            if lists:
                forms += [lists[1:], lists[:-1], lists + lists[-1:], [list(one) for one in lists]]
                forms += [[(point, tuple(ties)) for point, ties in lists], [(point, *ties) for point, ties in lists]]
                forms += [[(point, ties[:-1]) for point, ties in lists], [(ties, point) for point, ties in lists]]
                forms += [[(point, ties + ties[:1]) for point, ties in lists], [point for point, ties in lists]]
                forms += [[(point, ties + ["zzz"]) for point, ties in lists], [(f"x{lists[0][0]}", lists[0][1])]]
                forms += [[(point, ties + [None]) for point, ties in lists], [(point,) for point, ties in lists]]
                forms += [[(point, ties, 1) for point, ties in lists]]
            if len(lists) > 1:
                forms.append(lists[::-1])
            for form in forms:
                self.assertFalse(self.look(net, form), (net, form))

    def test_one_piece_too_few_faces_another_too_many(self):
        # Of three ties laid the wrong way there are two faces less, which no other piece can make good.
        net = lined(["12", "12", "12", "34", "34"])
        right = [("1", ["a", "b", "c"]), ("2", ["c", "b", "a"]), ("3", ["d", "e"]), ("4", ["d", "e"])]
        self.assertTrue(self.look(net, right))
        self.assertFalse(self.look(net, [right[0], ("2", ["a", "b", "c"]), *right[2:]]))

    def test_nets_that_can_t_be_laid(self):
        chance = random.Random(100)
        for net in [five(), three(), *nets_off_the_ball(101, 10)]:
            for turn in range(15):
                lists = [(point, papers.star_of(net, point)) for point in words.places_of(net)]
                for point, ties in lists:
                    chance.shuffle(ties)
                self.assertFalse(self.look(net, lists), (net, lists))

    def test_any_order_round_small_nets(self):
        told = Counter()
        for net in (lined(["12", "12", "13", "11"]), lined(["12", "13", "14", "23", "24", "34"]), lined(["11", "11"])):
            stars = [(point, papers.star_of(net, point)) for point in words.places_of(net)]
            for orders in itertools.product(*[itertools.permutations(ties) for point, ties in stars]):
                told[self.look(net, [(point, list(order)) for (point, ties), order in zip(stars, orders)])] += 1
        self.assertGreater(min(told[True], told[False]), 20)

    def test_changed_by_chance(self):
        chance = random.Random(102)
        for net in self.nets():
            lists = laid(net)[1]
            for turn in range(30):
                self.look(net, changed(chance, lists, [part for tie in net for part in tie]))

    def test_any_thing(self):
        chance = random.Random(103)
        for net in ([], [("a", "p", "p")], wheel(3)):
            for turn in range(400):
                self.look(net, any_thing(chance, 5))
                self.look(net, [(point, any_thing(chance, 3)) for point in words.places_of(net)])


class WhatTheLookerKnows(unittest.TestCase):

    def test_it_knows_no_finders_and_no_walls(self):
        folder = pathlib.Path(__file__).resolve().parent.parent / "roundsalone"
        known, ahead = set(), ["looker"]
        while ahead:
            name = ahead.pop()
            for node in ast.walk(ast.parse((folder / f"{name}.py").read_text())):
                if isinstance(node, ast.ImportFrom):
                    ahead.append(node.module.split(".")[1])
            known.add(name)
        for finder in ("houses", "blocks", "parts", "quiet", "reading", "judging", "roads", "apart", "ball"):
            self.assertNotIn(finder, known)


if __name__ == "__main__":
    unittest.main()
