"""Points 4 and 19: the parts of blocks, and the tables of their shares."""

import itertools
import unittest

from roundsalone.nets import table_of
from roundsalone.parts import part_table, parts
from roundsalone.spans import crossed, is_table, steps
from tests.brute import (LETTERS, blocks_of, chance_nets, chance_tables, every_row, in_order, is_parting,
                         one_block_tables, other_rows, small_tables, span)


def net_of(text):
    """A net by its ties' pairs of points, the ties called a, b and so on."""
    return [(tie, *sorted(pair)) for tie, pair in zip(LETTERS, text.split(), strict=False)]


K4 = table_of(net_of("12 13 14 23 24 34"))
K5 = table_of(net_of("12 13 14 15 23 24 25 34 35 45"))
THREES = table_of(net_of("14 15 16 24 25 26 34 35 36"))
WHEEL = table_of(net_of("01 02 03 04 05 06 12 23 34 45 56 16"))
LADDER = table_of(net_of("12 34 56 78 13 35 57 24 46 68"))
TWO_K4 = table_of(net_of("13 14 23 24 34 15 16 25 26 56 12"))
TWO_K4_BARE = table_of(net_of("13 14 23 24 34 15 16 25 26 56"))
STRING_OF_PAIRS = table_of(net_of("12 12 23 23 34 34 45 45 15 15"))
PATHS_SIDE_BY_SIDE = table_of(net_of("12 13 34 24 15 25 25"))
SEVEN = (list("abcdefg"), [row for row in (["a", "b", "c"], ["a", "d", "e"], ["a", "f", "g"], ["b", "d", "f"])])
MANIFOLD = table_of(net_of("13 14 23 24 35 56 46 17 17 27 12 12"))
NAMED = (K4, K5, THREES, WHEEL, LADDER, TWO_K4, TWO_K4_BARE, STRING_OF_PAIRS, PATHS_SIDE_BY_SIDE, SEVEN, crossed(SEVEN),
         crossed(K5), crossed(THREES), crossed(LADDER), crossed(STRING_OF_PAIRS), MANIFOLD)


def ring(many):
    return (list(LETTERS[:many]), [list(LETTERS[:many])])


def bundle(many):
    return (list(LETTERS[:many]), [[one, LETTERS[many - 1]] for one in LETTERS[:many - 1]])


def all_blocks():
    """Tables that are one block."""
    nets = [table_of(net) for net in chance_nets(25, 60, 8)]
    tables = itertools.chain(small_tables(), chance_tables(26, 80, 8), nets)
    found = {str(table): table for table in one_block_tables(tables)}
    return [*NAMED, *(ring(many) for many in range(1, 10)), *(bundle(many) for many in range(1, 10)), *found.values()]


def word_table(evens, share):
    """The span of a share's table by the words."""
    told = set()
    for even in evens:
        crossed_ones = [group for group in share if even & frozenset(group) not in evens
                        or (len(group) == 1 and group[0] in even)]
        told.add(frozenset(group[0] for group in crossed_ones))
    return told


class Parts(unittest.TestCase):

    def test_what_is_looked_at_is_one_block(self):
        for table in all_blocks():
            self.assertEqual(blocks_of(table[0], span(table)), [table[0]])

    def test_one_name(self):
        self.assertEqual(parts((["a"], [["a"]])), [("loop", [["a"]])])
        self.assertEqual(parts((["a"], [["a"], ["a"]])), [("loop", [["a"]])])
        self.assertEqual(parts((["a"], [])), [("bridge", [["a"]])])
        self.assertEqual(parts((["a"], [[]])), [("bridge", [["a"]])])

    def test_two_names(self):
        self.assertEqual(parts((["a", "b"], [["a", "b"]])), [("ring", [["a"], ["b"]])])
        self.assertEqual(parts((["10", "9"], [["10", "9"], []])), [("ring", [["10"], ["9"]])])

    def test_rings_and_bundles(self):
        for many in range(3, 10):
            singles = [[name] for name in LETTERS[:many]]
            self.assertEqual(parts(ring(many)), [("ring", singles)])
            self.assertEqual(parts(bundle(many)), [("bundle", singles)])

    def test_written_ones(self):
        for whole in (K4, K5, THREES, WHEEL, SEVEN, crossed(SEVEN), crossed(K5), crossed(THREES)):
            self.assertEqual(parts(whole), [("whole", [[name] for name in whole[0]])])
        self.assertEqual(parts((list("abcde"), [["a", "b", "e"], ["c", "d", "e"]])), [
            ("ring", [["a"], ["b"], ["c", "d", "e"]]), ("bundle", [["a", "b"], ["c", "d"], ["e"]]),
            ("ring", [["a", "b", "e"], ["c"], ["d"]])])
        self.assertEqual(parts(table_of(net_of("13 14 23 24 35 56 46 12"))), [
            ("whole", [["a"], ["b"], ["c"], ["d"], ["e", "f", "g"], ["h"]]),
            ("ring", [["a", "b", "c", "d", "h"], ["e"], ["f"], ["g"]])])

    def test_wholes_side_by_side_stay_two(self):
        self.assertEqual(parts(TWO_K4_BARE), [
            ("whole", [["a"], ["b"], ["c"], ["d"], ["e"], list("fghij")]),
            ("whole", [list("abcde"), ["f"], ["g"], ["h"], ["i"], ["j"]])])
        self.assertEqual(parts(TWO_K4), [
            ("whole", [["a"], ["b"], ["c"], ["d"], ["e"], list("fghijk")]),
            ("bundle", [list("abcde"), list("fghij"), ["k"]]),
            ("whole", [list("abcdek"), ["f"], ["g"], ["h"], ["i"], ["j"]])])

    def look_at_order_and_names(self, names, told):
        self.assertIs(type(told), list)
        for part in told:
            self.assertIs(type(part), tuple)
            kind, share = part
            self.assertIn(kind, ("ring", "bundle", "whole"))
            self.assertGreaterEqual(len(share), 3)
            self.assertEqual(share, sorted(share))
            self.assertEqual(sorted(name for group in share for name in group), names)
            for group in share:
                self.assertTrue(group)
                self.assertEqual(group, sorted(group))
        shares = [share for kind, share in told]
        self.assertEqual(shares, sorted(shares))
        for name in names:
            self.assertEqual(len([share for share in shares if [name] in share]), 1)

    def look_beyond(self, names, evens, told):
        for kind, share in told:
            for group in share:
                if len(group) > 1:
                    self.assertTrue(is_parting(names, evens, group), group)
                    rest = [name for name in names if name not in group]
                    beyond = [other for other in told if rest in other[1]]
                    self.assertEqual(len(beyond), 1)
                    self.assertNotEqual(beyond[0], (kind, share))
                    self.assertFalse(kind == beyond[0][0] and kind != "whole", (kind, group))

    def look_at_kind(self, evens, kind, share):
        firsts = [group[0] for group in share]
        inner = word_table(evens, share)
        if kind == "ring":
            self.assertEqual(inner, {frozenset(), frozenset(firsts)})
        elif kind == "bundle":
            self.assertEqual(inner, {frozenset(row) for row in every_row(firsts) if len(row) % 2 == 0})
        else:
            self.assertGreaterEqual(len(share), 4)
            self.assertEqual(blocks_of(firsts, inner), [firsts])
            self.assertFalse(any(is_parting(firsts, inner, row) for row in every_row(firsts)))

    def test_every_sentence(self):
        seen = set()
        for table in all_blocks():
            names, evens = table[0], span(table)
            if len(names) >= 3:
                with self.subTest(table=table):
                    told = parts(table)
                    self.look_at_order_and_names(names, told)
                    self.look_beyond(names, evens, told)
                    for kind, share in told:
                        self.look_at_kind(evens, kind, share)
                        seen.add((kind, len(told) > 1))
        self.assertEqual(seen, {(kind, more) for kind in ("ring", "bundle", "whole") for more in (True, False)})

    def test_blocks_of_one_name_and_of_two(self):
        for table in all_blocks():
            if len(table[0]) == 1:
                kind = "loop" if [table[0][0]] in table[1] else "bridge"
                self.assertEqual(parts(table), [(kind, [table[0]])], table)
            if len(table[0]) == 2:
                self.assertEqual(parts(table), [("ring", [[table[0][0]], [table[0][1]]])], table)

    def test_they_hang_on_the_span_alone(self):
        for at, table in enumerate(all_blocks()):
            self.assertEqual(parts(other_rows(table, at)), parts(table), table)
            self.assertEqual(parts((table[0], in_order(span(table)))), parts(table), table)

    def test_the_crossed_table_has_the_crossed_parts(self):
        kinds = {"ring": "bundle", "bundle": "ring", "whole": "whole"}
        for table in NAMED:
            self.assertEqual(parts(crossed(table)), [(kinds[kind], share) for kind, share in parts(table)], table)

    def test_at_the_bounds(self):
        for table in (WHEEL, MANIFOLD):
            self.assertEqual(len(table[0]), 12)
            self.assertTrue(is_table(table))


class TablesOfParts(unittest.TestCase):

    def test_written_ones(self):
        self.assertEqual(part_table(TWO_K4, [list("abcde"), list("fghij"), ["k"]]), (list("afk"), [["a", "k"],
                                                                                                  ["f", "k"]]))
        self.assertEqual(part_table(TWO_K4_BARE, [["a"], ["b"], ["c"], ["d"], ["e"], list("fghij")]),
                         (list("abcdef"), [["a", "d", "e", "f"], ["b", "d", "f"], ["c", "d", "e"]]))
        self.assertEqual(part_table((["a"], [["a"]]), [["a"]]), (["a"], [["a"]]))
        self.assertEqual(part_table((["a"], []), [["a"]]), (["a"], []))
        self.assertEqual(part_table((["a", "b"], [["a", "b"]]), [["a"], ["b"]]), (["a", "b"], [["a", "b"]]))

    def test_against_the_words(self):
        for table in all_blocks():
            evens = span(table)
            for kind, share in parts(table):
                told = part_table(table, share)
                self.assertIsInstance(told, tuple)
                self.assertEqual(told[0], [group[0] for group in share], (table, share))
                self.assertEqual(span(told), word_table(evens, share), (table, share))
                self.assertEqual(told[1], steps(told), (table, share))

    def test_a_part_alone_has_one_part(self):
        for table in all_blocks():
            for kind, share in parts(table):
                firsts = [[group[0]] for group in share]
                self.assertEqual(parts(part_table(table, share)), [(kind, firsts)], (table, share))

    def test_it_hangs_on_the_span_alone(self):
        for at, table in enumerate(all_blocks()):
            for kind, share in parts(table):
                self.assertEqual(part_table(other_rows(table, at), share), part_table(table, share), table)


if __name__ == "__main__":
    unittest.main()
