"""Point 33: desks."""

import random
import unittest
from collections import Counter

from roundsalone.ball import laid
from roundsalone.bench import Bench
from roundsalone.desk import Desk
from roundsalone.errors import NoMatch, NoName, NoNet, NoStep, NoText, NoTie, RoundError, TooMany
from roundsalone.houses import rounds, walls
from roundsalone.judging import judged
from roundsalone.nets import table_of
from roundsalone.reading import read
from roundsalone.roads import road
from roundsalone.spans import crossed
from roundsalone.texts import read_net, read_table, show_net, show_row, show_table
from tests.brute import chance_nets, grown_nets
from tests.papers import bounded_nets, five, grown_small_ones, lined, nets_off_the_ball, small_ones, three
from tests.things import any_thing
from tests.words import net_written, table_written, word_deed

NET = "a p q, b p q, c q r, d r r"
# Twelve ties, of which eight are steps.
FULL = show_net(lined(["12", "12", "12", "12", "12", "12", "12", "12", "12", "23", "34", "45"]))
MANY = show_net(lined(["12"] * 13))
SEVEN = show_table(small_ones()["seven"])
# Each row with all its words, on a desk that keeps NET as x and as y.
ROWS = ["keep z a p q", "keep z -", "read z a b / a b", "show x", "table x", "walls x", "rounds x", "lay x e p s",
        "take x a", "shrink x a", "turn x a c d", "apart x r n d", "together x p q", "same x y", "judge a b / a b",
        "ball x"]
FIXED = ["show x", "table x", "walls x", "rounds x", "lay x e p s", "take x a", "shrink x a", "together x p q",
         "same x y", "ball x"]


def desk_with(**nets):
    desk = Desk()
    for name, net in nets.items():
        desk.say(f"keep {name} {net}")
    return desk


def full_desk():
    return desk_with(x=NET, y=NET)


def told(desk, row):
    """The answer, or the refusal."""
    try:
        return desk.say(row)
    except RoundError as why:
        return type(why)


def paper_text(paper):
    if paper[0] == "net":
        return "net " + show_net(paper[1])
    word = {"crossed seven": "crossed"}.get(paper[1], paper[1])
    return word + " taken " + show_row(paper[2]) + ", shrunk " + show_row(paper[3])


class Answers(unittest.TestCase):

    def test_keep_and_show(self):
        desk = Desk()
        for net in [[], *bounded_nets([*chance_nets(141, 20, 12), *grown_nets(142, 20, 12)])]:
            self.assertEqual(desk.say(f"keep x {show_net(net)}"), "ok")
            self.assertEqual(desk.say("show x"), show_net(net))
            self.assertEqual(desk.say("table x"), show_table(table_of(net)))

    def test_written_answers(self):
        desk = desk_with(x=NET, e="-")
        self.assertEqual(desk.say("show x"), NET)
        self.assertEqual(desk.say("table x"), "a b c d / a b / d")
        self.assertEqual(desk.say("walls x"), "c / a b")
        self.assertEqual(desk.say("rounds x"), "d / a b")
        self.assertEqual(desk.say("ball x"), "yes")
        self.assertEqual(desk.say("same x x"), "same")
        self.assertEqual([desk.say(f"{word} e") for word in ("show", "table", "walls", "rounds", "ball")],
                         ["-", "-", "none", "none", "yes"])
        self.assertEqual(desk.say("same e e"), "same")

    def test_none_where_there_are_no_rows(self):
        desk = desk_with(loop="a p p", bridge="a p q")
        self.assertEqual([desk.say("walls loop"), desk.say("rounds loop")], ["none", "a"])
        self.assertEqual([desk.say("walls bridge"), desk.say("rounds bridge")], ["a", "none"])

    def test_read(self):
        desk = Desk()
        self.assertEqual(desk.say("read x a b c / a b / -"), "ok")
        self.assertEqual(desk.say("show x"), show_net(read((["a", "b", "c"], [["a", "b"]]))))
        self.assertEqual(desk.say("read x -"), "ok")
        self.assertEqual(desk.say("show x"), "-")
        for net in bounded_nets(grown_nets(143, 10, 12)):
            table = table_of(net)
            self.assertEqual(desk.say(f"read y {show_table(table)}"), "ok")
            self.assertEqual(desk.say("table y"), show_table(table))
            self.assertEqual(desk.say("show y"), show_net(read(table)))

    def test_kept_in_the_place_of_another(self):
        desk = full_desk()
        desk.say("keep x a p p")
        self.assertEqual([desk.say("show x"), desk.say("show y")], ["a p p", NET])
        desk.say("read x a")
        self.assertEqual(desk.say("rounds x"), "none")
        desk.say("keep x -")
        self.assertEqual(desk.say("show x"), "-")

    def test_walls_and_rounds(self):
        for net in bounded_nets(grown_nets(144, 15, 10)):
            desk = desk_with(n=show_net(net))
            for word, rows in (("walls", walls(table_of(net))), ("rounds", rounds(table_of(net)))):
                self.assertEqual(desk.say(f"{word} n"), " / ".join(map(" ".join, rows)) or "none")

    def test_deeds(self):
        for row, net in (("lay x e s p", NET + ", e p s"), ("lay x e p p", NET + ", e p p"),
                         ("take x a", "b p q, c q r, d r r"), ("shrink x a", "b p p, c p r, d r r"),
                         ("shrink x d", "a p q, b p q, c q r"), ("turn x a c d", "a p q, b p q, c p r, d r r"),
                         ("turn x a", NET), ("apart x r n d", "a p q, b p q, c q r, d n n"),
                         ("apart x q n c d", "a p q, b p q, c n r, d r r")):
            desk = full_desk()
            self.assertEqual(desk.say(row), "ok")
            self.assertEqual([desk.say("show x"), desk.say("show y")], [net, NET], row)

    def test_together(self):
        desk = desk_with(x="a p q, b r s")
        self.assertEqual(desk.say("together x s p"), "ok")
        self.assertEqual(desk.say("show x"), "a q s, b r s")

    def test_same(self):
        desk = desk_with(x="a 1 2, b 2 3, c 3 4, d 1 4", y="a 1 2, b 3 4, c 2 3, d 1 4", z="a 1 2, b 1 2, c 3 4, d 3 4")
        self.assertEqual(desk.say("same x y"), "same")
        self.assertEqual(desk.say("same y x"), "same")
        for one, other in ("xz", "zx", "yz"):
            told_road = road(read_net(desk.say(f"show {one}")), read_net(desk.say(f"show {other}")))
            self.assertEqual(desk.say(f"same {one} {other}"), "unlike " + " ".join(told_road[2]))

    def test_judge(self):
        desk = Desk()
        self.assertEqual(desk.say("judge -"), "net -")
        self.assertEqual(desk.say("judge a / a"), "net a 0 0")
        words = Counter()
        for table in [*small_ones().values(), *grown_small_ones(145, 20), (["a", "b"], [["a", "b"], []])]:
            answer = desk.say(f"judge {show_table(table)}")
            self.assertEqual(answer, paper_text(judged(table)))
            words[answer.split(" ")[0]] += 1
        self.assertEqual(set(words), {"net", "seven", "crossed", "five", "three"})
        self.assertEqual(desk.say(f"judge {SEVEN}"), "seven taken -, shrunk -")
        self.assertEqual(desk.say(f"judge {show_table(crossed(small_ones()['seven']))}"), "crossed taken -, shrunk -")

    def test_ball(self):
        desk = desk_with(five=show_net(five()), three=show_net(three()))
        self.assertEqual(desk.say("ball five"), "five taken -, shrunk -")
        self.assertEqual(desk.say("ball three"), "three taken -, shrunk -")
        desk.say("lay three x 1 4")
        self.assertEqual(desk.say("ball three"), "three taken a, shrunk -")
        desk.say("take three a")
        desk.say("take three x")
        self.assertEqual(desk.say("ball three"), "yes")
        for net in [*bounded_nets(chance_nets(146, 10, 12)), *nets_off_the_ball(147, 8)]:
            desk.say(f"keep n {show_net(net)}")
            paper = laid(net)
            self.assertEqual(desk.say("ball n"), "yes" if paper[0] == "laid" else paper_text(paper))

    def test_names_that_are_words_too(self):
        desk = desk_with(keep=NET, show="a p q", x="show p q", judge="-")
        self.assertEqual(desk.say("show show"), "a p q")
        self.assertEqual(desk.say("take x show"), "ok")
        self.assertEqual([desk.say("show x"), desk.say("show keep"), desk.say("show judge")], ["-", NET, "-"])

    def test_several_desks_side_by_side(self):
        one, other = full_desk(), full_desk()
        one.say("take x a")
        other.say("lay x z p q")
        third = Desk()
        self.assertIs(told(third, "show x"), NoName)
        self.assertEqual([one.say("show x"), other.say("show x")], ["b p q, c q r, d r r", NET + ", z p q"])

    def test_the_same_is_told_again(self):
        desk = full_desk()
        for row in ("show x", "table x", "walls x", "rounds x", "ball x", "same x y", f"judge {SEVEN}"):
            self.assertEqual(desk.say(row), desk.say(row))


class Refused(unittest.TestCase):

    def refused(self, error, row, desk=None):
        """The row is refused so, and changes nothing."""
        desk = desk or full_desk()
        kept = [told(desk, f"show {name}") for name in ("x", "y", "z", "f")]
        self.assertIs(told(desk, row), error, row)
        self.assertEqual([told(desk, f"show {name}") for name in ("x", "y", "z", "f")], kept, row)

    def test_the_rows_themselves_are_answered(self):
        for row in ROWS:
            answer = told(full_desk(), row)
            self.assertTrue(isinstance(answer, str) or row == "together x p q", row)

    def test_what_is_no_text(self):
        for thing in (None, True, 0, 7, [], (), ["show x"], ("show", "x"), ["show", "x"], b"show x"):
            self.refused(NoText, thing)
        chance = random.Random(148)
        for turn in range(200):
            self.refused(NoText, any_thing(chance, 5))

    def test_no_such_row(self):
        for row in ("", " ", "x", "Show x", "shows x", "sho x", "drop x", "show,x", "show/x", "-", "help", "net x",
                    "parts x", "crossed x", "road x y", "SHOW x", "show\tx", "show x\n", "\nshow x", "keepx a p q"):
            self.refused(NoText, row)

    def test_blanks(self):
        for row in ROWS:
            self.refused(NoText, " " + row)
            self.refused(NoText, row + " ")
            for at, sign in enumerate(row):
                if sign == " ":
                    self.refused(NoText, row[:at] + " " + row[at:])

    def test_a_word_too_few(self):
        for row in ROWS:
            words = row.split(" ")
            self.refused(NoText, words[0])
            self.refused(NoText, words[0] + " ")
        for row in FIXED:
            self.refused(NoText, row.rpartition(" ")[0])
        for row in ("keep z", "keep z a", "keep z a p", "read z", "turn x", "apart x", "apart x r", "apart x r n",
                    "together x", "lay x", "lay x e", "take x", "same"):
            self.refused(NoText, row)

    def test_a_word_too_many(self):
        for row in FIXED:
            self.refused(NoText, row + " a")
            self.refused(NoText, row + " x")
        for row in ("keep z a p q r", "keep z - -", "read z a b / a b c", "judge a b / a b c", "keep z y a p q"):
            self.refused(NoText, row)

    def test_words_that_are_no_names(self):
        for row in ROWS:
            words = row.split(" ")
            if words[0] not in ("keep", "read", "judge"):
                for at in range(1, len(words)):
                    for bad in ("A", "sevenup", "-", "/", "a,", "a_b", "a.", "~", "X"):
                        self.refused(NoText, " ".join([*words[:at], bad, *words[at + 1:]]))
        for bad in ("A", "sevenup", "-", "/", "x,", "~"):
            self.refused(NoText, f"keep {bad} a p q")
            self.refused(NoText, f"read {bad} a")

    def test_names_that_are_not_kept(self):
        for row in FIXED + ["turn x a c d", "apart x r n d"]:
            words = row.split(" ")
            self.refused(NoName, " ".join([words[0], "zz", *words[2:]]))
        self.refused(NoName, "same x zz")
        self.refused(NoName, "same zz x")
        self.refused(NoName, "same zz zy")
        self.assertIs(told(Desk(), "show x"), NoName)

    def test_no_text_ahead_of_no_name(self):
        for row in ("show zz a", "show zz ", "lay zz e p", "lay zz E p q", "take zz", "take zz A", "turn zz", "same zz",
                    "apart zz r n", "together zz p", "turn zz a -", "same zz A", "same A zz", "ball zz zz",
                    "walls zz  ", "table  zz"):
            self.refused(NoText, row)

    def test_no_name_ahead_of_all_else(self):
        desk = desk_with(x=NET, y=NET, f=FULL, o="a p q")
        for row in ("lay zz a p q", "take zz e", "shrink zz e", "turn zz b a", "apart zz r n z", "together zz p p",
                    "same zz o", "same o zz", "lay zz m 1 2"):
            self.refused(NoName, row, desk)

    def test_keep(self):
        for net in ("a q p", "b p q, a p q", "a p q,", "a p q b p q", "a p", "- -", "a p sevenup", "a p q / b p q"):
            self.refused(NoText, f"keep x {net}")
            self.refused(NoText, f"keep z {net}")
        self.refused(TooMany, f"keep x {MANY}")
        self.refused(TooMany, f"keep z {MANY}")
        self.refused(NoText, f"keep X {MANY}")
        self.refused(NoText, f"keep x {MANY},")

    def test_read(self):
        for table in ("a b / c", "b a", "a / ", "a p q, b p q", "a b / b a", "a - b"):
            self.refused(NoText, f"read x {table}")
            self.refused(NoText, f"judge {table}")
        many = " ".join(f"n{number}" for number in range(10, 23))
        nine = "a b c d e f g h i"
        for table in (many, "a b" + " / a" * 17, nine, " / ".join([nine, *nine.split(" ")])):
            self.refused(TooMany, f"read x {table}")
            self.refused(TooMany, f"read z {table}")
            self.refused(TooMany, f"judge {table}")
            self.refused(NoText, f"read X {table}")
            self.refused(NoText, f"read x {table} /")
            self.refused(NoText, f"judge {table} ")
        for table in [*small_ones().values(), *grown_small_ones(149, 5)]:
            self.refused(NoNet, f"read x {show_table(table)}")
            self.refused(NoNet, f"read z {show_table(table)}")
            self.refused(NoText, f"read Z {show_table(table)}")

    def test_too_many_ahead_of_no_net(self):
        table = small_ones()["seven"]
        names = table[0] + ["h", "i", "j", "k", "l", "m"]
        self.refused(TooMany, f"read x {show_table((names, table[1]))}")

    def test_deeds(self):
        desk = desk_with(x=NET, y=NET, f=FULL)
        for row, error in (("lay x a p q", NoTie), ("lay f m 1 2", TooMany), ("lay f a 1 2", NoTie),
                           ("take x e", NoTie), ("shrink x p", NoTie), ("turn x b a", NoStep), ("turn x c d", NoStep),
                           ("turn x a a", NoStep), ("turn x e", NoStep), ("turn x a b c d", NoStep),
                           ("apart x r n d c", NoStep), ("apart x r p d", NoStep), ("apart x q n d", NoStep),
                           ("apart x r n a", NoStep), ("together x p q", NoStep), ("together x p p", NoStep),
                           ("together x p s", NoStep), ("turn x d c a", NoStep)):
            self.refused(error, row, desk)

    def test_same(self):
        desk = desk_with(x=NET, y="a p q", e="-")
        self.refused(NoMatch, "same x y", desk)
        self.refused(NoMatch, "same y x", desk)
        self.refused(NoMatch, "same e y", desk)


class ByTheWords(unittest.TestCase):
    """A desk of chance, held against what the words say row by row."""

    ASKED = {"show": show_net, "table": lambda net: show_table(table_of(net)),
             "walls": lambda net: " / ".join(map(" ".join, walls(table_of(net)))) or "none",
             "rounds": lambda net: " / ".join(map(" ".join, rounds(table_of(net)))) or "none"}
    PLAIN = {"lay": 3, "take": 1, "shrink": 1, "together": 2}

    def deed(self, word, names):
        if word in self.PLAIN:
            return (word, *names) if len(names) == self.PLAIN[word] else None
        if word == "turn":
            return (word, names) if names else None
        return ("apart", names[0], names[2:], names[1]) if len(names) > 2 else None

    def words(self, nets, row):
        """What a row is answered with, or the refusal's name; nets are those kept, which it changes."""
        word, *rest = row.split(" ")
        if word in ("keep", "read") and len(rest) > 1:
            written = (net_written if word == "keep" else table_written)(" ".join(rest[1:]))
            if isinstance(written, str) or not is_name(rest[0]):
                return written if is_name(rest[0]) else "NoText"
            net = written if word == "keep" else read(written)
            if net is None:
                return "NoNet"
            nets[rest[0]] = net
            return "ok"
        if not rest or not all(map(is_name, rest)):
            return "NoText"
        if word in self.ASKED and len(rest) == 1:
            return self.ASKED[word](nets[rest[0]]) if rest[0] in nets else "NoName"
        deed = self.deed(word, rest[1:]) if word in (*self.PLAIN, "turn", "apart") else None
        if deed is None:
            return "NoText"
        if rest[0] not in nets:
            return "NoName"
        behind = word_deed(nets[rest[0]], deed)
        if isinstance(behind, str):
            return behind
        nets[rest[0]] = behind
        return "ok"

    def chance_row(self, chance, nets):
        word = chance.choice(["keep", "read", *self.ASKED, *self.PLAIN, "turn", "apart"])
        name = chance.choice([*nets, "x", "y", "zz"])
        if word in ("keep", "read"):
            net = next(iter(chance_nets(chance.random(), 1, 14)))
            return f"{word} {name} {show_net(net) if word == 'keep' else show_table(table_of(net))}"
        ties = [tie for tie, one, other in nets.get(name, [])] + ["t1", "t2"]
        spots = [end for tie, *ends in nets.get(name, []) for end in ends] + ["p", "n1"]
        if word == "turn":
            return " ".join([word, name, *sorted(chance.sample(ties, min(len(ties), chance.randint(1, 3))))])
        if word == "apart":
            return " ".join([word, name, chance.choice(spots), "n2", chance.choice(ties)])
        words = {"lay": [chance.choice(ties), *chance.choices(spots, k=2)], "together": chance.choices(spots, k=2)}
        return " ".join([word, name, *words.get(word, [] if word in self.ASKED else [chance.choice(ties)])])

    def spoilt(self, chance, row):
        at = chance.randrange(len(row) + 1)
        return chance.choice([row[:at] + chance.choice(" -/,azA0") + row[at:], row[:at] + row[at + 1:], row + " a",
                              row.rpartition(" ")[0], row[:at]])

    def test_rows_by_chance(self):
        chance = random.Random(150)
        answers = Counter()
        for turn in range(12):
            desk, nets = Desk(), {}
            for row_turn in range(120):
                row = self.chance_row(chance, nets)
                if chance.random() < 0.25:
                    row = self.spoilt(chance, row)
                answer, words = told(desk, row), self.words(nets, row)
                self.assertEqual(answer if isinstance(answer, str) else answer.__name__, words, row)
                answers[words] += 1
                for name, net in nets.items():
                    self.assertEqual(desk.say(f"show {name}"), show_net(net))
        for word in ("ok", "NoText", "NoName", "NoTie", "NoStep", "TooMany"):
            self.assertGreater(answers[word], 3, word)


class Kept(unittest.TestCase):

    def test_a_desk_s_net_goes_the_way_of_a_bench(self):
        desk, bench = full_desk(), Bench(read_net(NET))
        for row, deed in (("lay x e p s", ("lay", "e", "p", "s")), ("shrink x a", ("shrink", "a")),
                          ("apart x r n d", ("apart", "r", ["d"], "n")), ("take x b", ("take", "b"))):
            desk.say(row)
            bench.do(deed)
            self.assertEqual(desk.say("show x"), show_net(bench.net()))
            self.assertEqual(read_table(desk.say("table x")), bench.table())


def is_name(text):
    return 1 <= len(text) <= 6 and all(sign in "abcdefghijklmnopqrstuvwxyz0123456789" for sign in text)


if __name__ == "__main__":
    unittest.main()
