"""Point 2: nothing that is handed in is changed, and every list that is told is the asker's own."""

import copy
import unittest

from roundsalone.ball import crossed_net, laid
from roundsalone.blocks import block_table, blocks, crosses, is_parting
from roundsalone.errors import NoMatch, NoRound, NoStep, TooMany
from roundsalone.houses import even_sets, rank, rounds, walls
from roundsalone.judging import judged
from roundsalone.looker import lays, leads, stands
from roundsalone.nets import is_net, pieces, points, star, stars, table_of
from roundsalone.parts import part_table, parts
from roundsalone.quiet import quiet_ones
from roundsalone.reading import read
from roundsalone.roads import road
from roundsalone.rows import is_name, is_row, meets_evenly, summed
from roundsalone.spans import alike, crossed, is_table, steps, within
from roundsalone.steps import step_done
from roundsalone.takings import left, shrunk, taken_out
from roundsalone.texts import read_net, read_table, show_net, show_row, show_table
from roundsalone.woods import cut, walk, wood
from tests.brute import chance_nets, chance_tables, grown_nets, lists_in, lumps, one_block_tables, spoil
from tests.papers import five, grown_small_ones, small_ones

STEPPED = (["a", "b", "c"], [["a", "c"], ["b", "c"]])
NET = [("a", "p", "q"), ("b", "p", "q"), ("c", "r", "r")]


def asked_of_a_table(table):
    """The functions that ask of a table, with what is handed in."""
    names = table[0]
    yield from ((is_table, (table,)), (steps, (table,)), (crossed, (table,)), (even_sets, (table,)))
    yield from ((rounds, (table,)), (walls, (table,)), (rank, (table, names[1:])), (rank, (table, list(names))))
    yield from ((alike, (table, table)), (alike, (table, (list(names), []))))
    yield from ((within, (table, row)) for row in (names[:1], names[1:], [], *table[1]))
    yield from ((left, (table, [], [])), (left, (table, names[:2], names[2:3])))
    yield from ((deed, (table, name)) for deed in (taken_out, shrunk) for name in names)
    yield from ((blocks, (table,)), (read, (table,)), (judged, (table,)), (stands, (table, judged(table))))
    yield from ((show_table, (table,)), (show_row, (names,)), (read_table, (show_table(table),)))
    yield from ((crosses, (table, row, names[1:])) for row in table[1])


def asked_of_a_block(table):
    """The functions that ask of a table that is one block."""
    yield from ((block_table, (table, list(table[0]))), (is_parting, (table, table[0][:2])), (parts, (table,)))
    yield (quiet_ones, (table,))
    yield from ((part_table, (table, share)) for kind, share in parts(table))


def asked_of_a_net(net):
    """The functions that ask of a net, with what is handed in."""
    yield from ((deed, (net,)) for deed in (is_net, points, stars, pieces, table_of, wood, crossed_net, laid))
    yield from ((show_net, (net,)), (read_net, (show_net(net),)), (lays, (net, laid(net)[1])), (lays, (net, net)))
    yield from ((star, (net, point)) for tie in net for point in tie[1:])
    yield from ((cut, (net, some)) for some in ([], points(net)[:2], ["none"]))
    yield from ((walk, (net, row)) for row in rounds(table_of(net)))
    rows = [[tie] for tie, one, other in net] + pieces(net)
    yield from ((step_done, (net, ("turn", row))) for row in rows)
    yield from ((step_done, (net, ("apart", point, row, "new"))) for row in rows for point in points(net))
    yield from ((step_done, (net, ("together", one, other))) for one in points(net) for other in points(net))
    yield from ((walk, (net, rows[0] + ["zzz"])), (step_done, (net, ["turn", rows[0]]))) if rows else ()


def asked_of_two_nets(net):
    """The road to a net, to one of fewer ties, to one whose ties lie otherwise, and from it."""
    other = [(tie, *ends) for (tie, *old), (name, *ends) in zip(net, net[1:] + net[:1])]
    yield from ((road, two) for two in ((net, net), (net, net[1:]), (net, other), (other, net)))
    yield from ((leads, (net, two, steps_told)) for two in (net, other) for steps_told in (road(net, net)[1], [], net))
    rows = [lump for point in points(net) for lump in lumps(net, [point, points(net)[0]])]
    aparts = [("apart", point, row, "n") for point in points(net) for row in rows]
    for step in [*(("turn", row) for row in rows), *aparts]:
        behind = answer(step_done, (net, step))
        if behind != "refused":
            yield from ((road, (net, behind)), (road, (behind, net)))


def asked_of_rows():
    yield from ((is_name, (["a"],)), (is_row, (["a", "b"],)), (is_row, (["b", "a"],)))
    yield from ((summed, ([["a", "b"]],)), (summed, ([],)), (summed, ([["b"], ["a"], []],)))
    yield (meets_evenly, (["a"], ["a", "b"]))


def all_asked():
    yield from asked_of_rows()
    for table in [STEPPED, ([], []), (["a"], []), (["a"], [["a"], ["a"]]), *chance_tables(15, 20, 8)]:
        yield from asked_of_a_table(table)
    for table in grown_small_ones(20, 6):
        yield from ((read, (table,)), (judged, (table,)), (stands, (table, judged(table))))
    for table in [*one_block_tables(chance_tables(18, 20, 8)), *small_ones().values()]:
        yield from asked_of_a_block(table)
    for net in [NET, [], five(), *chance_nets(16, 20, 8)]:
        yield from asked_of_a_net(net)
    for net in [NET, [], *grown_nets(19, 12, 8)]:
        yield from asked_of_two_nets(net)


def answer(deed, handed):
    """What is told, or that it is refused."""
    try:
        return deed(*handed)
    except (NoMatch, NoRound, NoStep, TooMany):
        return "refused"


class OwnLists(unittest.TestCase):

    def test_what_is_handed_in_stays(self):
        for deed, handed in all_asked():
            kept = copy.deepcopy(handed)
            answer(deed, handed)
            self.assertEqual(handed, kept, deed)

    def test_no_list_stands_at_two_places_or_is_one_handed_in(self):
        for deed, handed in all_asked():
            told = answer(deed, handed)
            places = [id(one) for one in lists_in(told)]
            self.assertEqual(len(places), len(set(places)), (deed, handed))
            self.assertFalse(set(places) & {id(one) for one in lists_in(handed)}, (deed, handed))

    def test_changing_what_is_told_changes_no_later_answer(self):
        for deed, handed in all_asked():
            told = answer(deed, handed)
            kept = copy.deepcopy((told, handed))
            spoil(told)
            self.assertEqual(handed, kept[1], deed)
            self.assertEqual(answer(deed, handed), kept[0], (deed, handed))

    def test_changing_what_was_handed_in_changes_no_answer(self):
        for deed, handed in all_asked():
            kept, mine = copy.deepcopy(handed), copy.deepcopy(handed)
            told = answer(deed, mine)
            first = copy.deepcopy(told)
            spoil(mine)
            self.assertEqual(told, first, (deed, handed))
            self.assertEqual(answer(deed, kept), first, (deed, handed))

    def test_what_was_told_may_be_handed_in_again(self):
        for table in chance_tables(17, 40, 8):
            for told in (crossed(table), left(table, table[0][:1], table[0][1:2]), crossed(crossed(table))):
                self.assertEqual(left(told, [], []), told)
                self.assertEqual(steps(told), told[1])


if __name__ == "__main__":
    unittest.main()
