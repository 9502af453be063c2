"""Point 11: names taken out and shrunk."""

import itertools
import random
import unittest

from roundsalone.errors import NoName
from roundsalone.spans import alike, crossed, steps
from roundsalone.takings import left, shrunk, taken_out
from tests import brute
from tests.brute import chance_tables, other_rows, small_tables, span

NOT_THERE = ("x", "aa", "", "A", "abcdefg", "a b", 0, 1, True, None, [], ["a"], ("a",))


def all_tables():
    return itertools.chain(small_tables(), chance_tables(8, 80, 7))


def some_choices(table, seed, many):
    """Some pairs of rows of names of the table without a common name."""
    chance = random.Random(seed)
    for turn in range(many):
        fates = [(name, chance.choice("tsk")) for name in table[0]]
        yield [name for name, fate in fates if fate == "t"], [name for name, fate in fates if fate == "s"]


class Takings(unittest.TestCase):

    def look(self, told, names, evens):
        self.assertIsInstance(told, tuple)
        self.assertEqual(told[0], names)
        self.assertEqual(span(told), evens)
        self.assertEqual(told[1], steps(told))

    def test_written_ones(self):
        table = (["a", "b", "c"], [["a", "b"], ["b", "c"]])
        self.assertEqual(taken_out(table, "b"), (["a", "c"], [["a", "c"]]))
        self.assertEqual(shrunk(table, "b"), (["a", "c"], [["a"], ["c"]]))
        self.assertEqual(taken_out((["a"], [["a"]]), "a"), ([], []))
        self.assertEqual(shrunk((["a"], [["a"]]), "a"), ([], []))
        self.assertEqual(taken_out((["a", "b"], []), "a"), (["b"], []))
        self.assertEqual(left(table, ["a"], ["b", "c"]), ([], []))

    def test_taken_out_against_the_words(self):
        for table in all_tables():
            for name in table[0]:
                self.look(taken_out(table, name), *brute.taken(table[0], span(table), name))

    def test_shrunk_against_the_words(self):
        for table in all_tables():
            for name in table[0]:
                self.look(shrunk(table, name), *brute.shrunk(table[0], span(table), name))

    def test_left_against_the_words(self):
        for at, table in enumerate(all_tables()):
            for taken, shrunk_ones in some_choices(table, at, 4):
                names, evens = table[0], span(table)
                for name in taken:
                    names, evens = brute.taken(names, evens, name)
                for name in shrunk_ones:
                    names, evens = brute.shrunk(names, evens, name)
                self.look(left(table, taken, shrunk_ones), names, evens)

    def test_in_any_order(self):
        chance = random.Random(9)
        for at, table in enumerate(chance_tables(10, 60, 8)):
            for taken, shrunk_ones in some_choices(table, at, 3):
                told = left(table, taken, shrunk_ones)
                deeds = [(taken_out, name) for name in taken] + [(shrunk, name) for name in shrunk_ones]
                for turn in range(3):
                    chance.shuffle(deeds)
                    now = left(table, [], [])
                    for deed, name in deeds:
                        now = deed(now, name)
                    self.assertEqual(now, told, (table, deeds))

    def test_no_name_at_all(self):
        for table in all_tables():
            self.assertEqual(left(table, [], []), (table[0], steps(table)), table)

    def test_with_the_crossed_table(self):
        for table in all_tables():
            for name in table[0]:
                self.assertIs(alike(taken_out(crossed(table), name), crossed(shrunk(table, name))), True)
                self.assertIs(alike(shrunk(crossed(table), name), crossed(taken_out(table, name))), True)

    def test_several_with_the_crossed_table(self):
        for at, table in enumerate(chance_tables(11, 60, 9)):
            for taken, shrunk_ones in some_choices(table, at, 3):
                self.assertEqual(left(crossed(table), shrunk_ones, taken), crossed(left(table, taken, shrunk_ones)))

    def test_they_hang_on_the_span_alone(self):
        for at, table in enumerate(chance_tables(12, 60, 8)):
            for taken, shrunk_ones in some_choices(table, at, 3):
                self.assertEqual(left(other_rows(table, at), taken, shrunk_ones), left(table, taken, shrunk_ones))

    def test_a_name_that_is_not_there(self):
        for table in (([], []), (["a"], [["a"]]), (["a", "b"], [["a", "b"]])):
            for name in NOT_THERE + (("a",) if not table[0] else ()):
                with self.subTest((table, name)):
                    for ask in (lambda: taken_out(table, name), lambda: shrunk(table, name),
                                lambda: left(table, [name], []), lambda: left(table, [], [name]),
                                lambda: left(table, table[0] + [name], []),
                                lambda: left(table, [name], list(table[0]))):
                        self.assertRaises(NoName, ask)

    def test_a_refusal_changes_nothing(self):
        table = (["a", "b"], [["a", "b"], ["b"]])
        taken, shrunk_ones = ["a"], ["c"]
        self.assertRaises(NoName, lambda: left(table, taken, shrunk_ones))
        self.assertEqual((table, taken, shrunk_ones), ((["a", "b"], [["a", "b"], ["b"]]), ["a"], ["c"]))


if __name__ == "__main__":
    unittest.main()
