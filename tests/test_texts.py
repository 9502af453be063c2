"""Point 31: rows, tables and nets written, and read."""

import random
import unittest
from collections import Counter

from roundsalone.errors import NoText, TooMany
from roundsalone.nets import is_net
from roundsalone.spans import is_table
from roundsalone.texts import read_net, read_table, show_net, show_row, show_table
from tests.brute import chance_nets, chance_tables, grown_nets, small_tables
from tests.papers import bounded_nets, lined, small_ones, tables_at_the_bounds
from tests.things import any_thing
from tests.words import net_written, table_written

NAMES = [f"n{number:02}" for number in range(40)]


def told(deed, text):
    """What is told, or the refusal."""
    try:
        return deed(text)
    except (NoText, TooMany) as why:
        return type(why).__name__


def changed_texts(chance, text, many):
    """The text with signs put in, taken out or changed."""
    signs = " -/,abpq019zAZ_~.\t"
    for turn in range(many):
        at = chance.randrange(len(text) + 1)
        new = chance.choice(signs)
        yield from (text[:at] + new + text[at:], text[:at] + text[at + 1:], text[:at] + new + text[at + 1:])
        other = chance.randrange(len(text) + 1)
        yield text[:min(at, other)] + text[max(at, other):]
        yield text[:at] + text[min(at, other):]


class Shown(unittest.TestCase):

    def test_rows(self):
        self.assertEqual(show_row([]), "-")
        self.assertEqual(show_row(["a"]), "a")
        self.assertEqual(show_row(["10", "9", "a1"]), "10 9 a1")

    def test_tables(self):
        self.assertEqual(show_table((["a", "b", "c"], [["a", "b"], []])), "a b c / a b / -")
        self.assertEqual(show_table(([], [])), "-")
        self.assertEqual(show_table(([], [[], []])), "- / - / -")
        self.assertEqual(show_table((["a"], [])), "a")

    def test_nets(self):
        self.assertEqual(show_net([("a", "p", "q"), ("b", "q", "q")]), "a p q, b q q")
        self.assertEqual(show_net([]), "-")
        self.assertEqual(show_net([("a", "a", "a")]), "a a a")


class Tables(unittest.TestCase):

    def look(self, text):
        self.assertEqual(told(read_table, text), table_written(text), repr(text))
        return told(read_table, text)

    def tables(self):
        yield from small_ones().values()
        yield from tables_at_the_bounds(111, 20)
        yield from (table for table in chance_tables(112, 40, 12) if is_table(table))

    def test_written_and_read(self):
        for table in [*self.tables(), *small_tables()]:
            self.assertEqual(read_table(show_table(table)), table)
            self.assertEqual(self.look(show_table(table)), table)

    def test_rows_twice_and_empty_ones_and_no_steps_stay_as_they_are(self):
        for text in ("a b c / a b / -", "a b / a b / a b / - / -", "a b / b / a b / a", "-", "- / -", "a b"):
            self.assertEqual(show_table(read_table(text)), text)

    def test_texts_changed_at_any_place(self):
        chance = random.Random(113)
        answers = Counter()
        for table in self.tables():
            for text in changed_texts(chance, show_table(table), 12):
                answers[type(self.look(text))] += 1
        self.assertGreater(min(answers.values()), 100)

    def test_each_place_of_one_text(self):
        text = "a b0 c / a b0 / -"
        for at in range(len(text) + 1):
            for new in ["", *" -/,abc09zAB_\n"]:
                self.look(text[:at] + new + text[at:])
                self.look(text[:at] + new + text[at + 1:])

    def test_no_tables(self):
        for text in ("", " ", "/", " / ", "a /", "/ a", "a / ", " / a", " a", "a ", "a  b", "a b /  a", "a b  / a",
                     "a b/ a", "a b /a", "a b/a", "a b // a", "a b / / a", "a - b", "- a", "a b / - a", "a b / a -",
                     "-a", "--", "a b / --", "b a", "a a", "a b / b a", "a b / a a", "a b / c", "- / a", "sevenup",
                     "a b, a", "a,b", "A", "a.b", "a\tb", "a b\n", "a b / a\n", "a_b", "a b c / a b / -/",
                     "\u00e4", "a b / \u00e4"):
            self.assertEqual(self.look(text), "NoText", text)

    def test_what_is_no_text(self):
        for thing in (None, True, 0, 7, [], ["a"], ("a",), (["a"], [["a"]]), [["a"], ["a"]], ["a b / a"], b"a b / a"):
            self.assertRaises(NoText, read_table, thing)
        chance = random.Random(114)
        for turn in range(300):
            thing = any_thing(chance, 5)
            self.assertEqual(told(read_table, thing), table_written(thing), thing)

    def test_too_many_names(self):
        rows = [f"{one} {other}" for one, other in zip(NAMES, NAMES[1:])]
        self.assertEqual(len(self.look(" / ".join([" ".join(NAMES[:12]), *rows[:4]]))), 2)
        self.assertEqual(self.look(" / ".join([" ".join(NAMES[:13]), *rows[:6]])), "TooMany")
        self.assertEqual(self.look(" ".join(NAMES)), "TooMany")

    def test_too_many_rows(self):
        self.assertEqual(len(read_table("a b" + " / a" * 16)[1]), 16)
        self.assertEqual(self.look("a b" + " / a" * 17), "TooMany")
        self.assertEqual(self.look("-" + " / -" * 17), "TooMany")

    def test_too_many_steps(self):
        names = NAMES[:9]
        self.assertEqual(self.look(" / ".join([" ".join(names), *names[:8]])), (names, [[name] for name in names[:8]]))
        self.assertEqual(self.look(" / ".join([" ".join(names), *names])), "TooMany")

    def test_too_many_names_beyond_the_steps(self):
        self.assertEqual(self.look(" ".join(NAMES[:8])), (NAMES[:8], []))
        self.assertEqual(self.look(" ".join(NAMES[:9])), "TooMany")
        self.assertEqual(self.look(" ".join(NAMES[:9]) + f" / {NAMES[0]}"), (NAMES[:9], [NAMES[:1]]))

    def test_no_text_ahead_of_too_many(self):
        many = " ".join(NAMES)
        for text in (many + " ", many + " / zzz", many + " a", many + " / sevenup", "a b" + " / a" * 17 + " /",
                     "a b" + " / a" * 17 + " / b a", many + " / -" * 20 + " / A"):
            self.assertEqual(self.look(text), "NoText", text)

    def test_very_long_texts(self):
        long = [f"{number:04}" for number in range(790)]
        self.assertEqual(told(read_table, " ".join(long)), "TooMany")
        self.assertEqual(told(read_table, "a" + " / a" * 990), "TooMany")
        self.assertEqual(told(read_table, " ".join(long[:400]) + " / " + " ".join(long[:390])), "TooMany")
        self.assertEqual(told(read_table, "a " * 1990), "NoText")
        self.assertEqual(told(read_table, "a" * 4000), "NoText")

    def test_what_is_read_is_the_asker_s_own(self):
        one = read_table("a b / a b / a b")
        one[0].append("z")
        one[1][0].append("z")
        self.assertEqual(one[1][1], ["a", "b"])
        self.assertEqual(read_table("a b / a b / a b"), (["a", "b"], [["a", "b"], ["a", "b"]]))


class Nets(unittest.TestCase):

    def look(self, text):
        self.assertEqual(told(read_net, text), net_written(text), repr(text))
        return told(read_net, text)

    def nets(self):
        return [[], *bounded_nets([*chance_nets(115, 40, 12), *grown_nets(116, 20, 12)])]

    def test_written_and_read(self):
        for net in self.nets():
            self.assertTrue(is_net(net))
            self.assertEqual(read_net(show_net(net)), net)
            self.assertEqual(self.look(show_net(net)), net)

    def test_texts_changed_at_any_place(self):
        chance = random.Random(117)
        answers = Counter()
        for net in self.nets():
            for text in changed_texts(chance, show_net(net), 12):
                answers[type(self.look(text))] += 1
        self.assertGreater(min(answers.values()), 100)

    def test_each_place_of_one_text(self):
        text = "a p q, b0 q q, c p p"
        for at in range(len(text) + 1):
            for new in ["", *" -/,abcpq09zAB_\n"]:
                self.look(text[:at] + new + text[at:])
                self.look(text[:at] + new + text[at + 1:])

    def test_no_nets(self):
        for text in ("", " ", ",", ", ", "a", "a p", "a p q r", "a p q,", "a p q, ", ", a p q", "a p q,b p q",
                     "a p q , b p q", "a p q,  b p q", "a p q, , b p q", " a p q", "a p q ", "a  p q", "a p q b p q",
                     "a q p", "a p q, b q p", "b p q, a p q", "a p q, a p r", "- p q", "a - q", "a p -", "-, a p q",
                     "a p q, -", "--", "- ", " -", "a p sevenup", "sevenup p q", "A p q", "a p Q", "a p q\n", "a/p/q",
                     "a p q / b p q", "a\tp q", "\u00e4 p q", "a p q; b p q", "a b a"):
            self.assertEqual(self.look(text), "NoText", text)

    def test_what_is_no_text(self):
        for thing in (None, False, 1, [], [("a", "p", "q")], ("a", "p", "q"), ["a p q"], b"a p q"):
            self.assertRaises(NoText, read_net, thing)
        chance = random.Random(118)
        for turn in range(300):
            thing = any_thing(chance, 5)
            self.assertEqual(told(read_net, thing), net_written(thing), thing)

    def test_too_many_ties(self):
        pairs = ["12", "23", "34", "45", "15", "13", "14", "24", "25", "35", "12", "12", "12"]
        self.assertEqual(len(self.look(show_net(lined(pairs[:12])))), 12)
        self.assertEqual(self.look(show_net(lined(pairs))), "TooMany")

    def test_too_many_steps(self):
        self.assertEqual(len(self.look(show_net(lined(["11"] * 8)))), 8)
        self.assertEqual(self.look(show_net(lined(["11"] * 9))), "TooMany")

    def test_too_many_ties_beyond_the_steps(self):
        pairs = [f"{number}{number + 1}" for number in range(8)]
        self.assertEqual(len(self.look(show_net(lined(pairs)))), 8)
        self.assertEqual(self.look(show_net(lined(pairs + ["8a"]))), "TooMany")
        self.assertEqual(len(self.look(show_net(lined(pairs + ["08"])))), 9)

    def test_no_text_ahead_of_too_many(self):
        many = show_net(lined(["12"] * 20))
        self.assertEqual(self.look(many), "TooMany")
        for text in (many + ",", many + ", ", many + ", a p q", many + ", z q p", many + " ", many + ", zz p sevenup"):
            self.assertEqual(self.look(text), "NoText", text)

    def test_very_long_texts(self):
        long = ", ".join(f"{number:03} p{number % 7} q{number % 5}" for number in range(300))
        self.assertEqual(told(read_net, long), "TooMany")
        self.assertEqual(told(read_net, long + ","), "NoText")
        self.assertEqual(told(read_net, ", ".join(f"{number:03} a{number} b{number}" for number in range(250))),
                         "TooMany")

    def test_what_is_read_is_the_asker_s_own(self):
        one = read_net("a p q")
        one.append("z")
        self.assertEqual(read_net("a p q"), [("a", "p", "q")])


if __name__ == "__main__":
    unittest.main()
