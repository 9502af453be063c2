"""A desk: nets kept by names, asked and changed by rows of words."""

from roundsalone.ball import laid
from roundsalone.bench import Bench
from roundsalone.errors import NoName, NoText
from roundsalone.houses import rounds, walls
from roundsalone.judging import judged
from roundsalone.reading import read
from roundsalone.rows import is_name
from roundsalone.texts import read_net, read_table, show_net, show_row, show_rows, show_table


def show_some(rows):
    """Rows as a text, also where there are none."""
    return show_rows(rows) if rows else "none"


def show_paper(paper):
    """How a table is judged, as a text."""
    if paper[0] == "net":
        return f"net {show_net(paper[1])}"
    word, kind, taken, shrunk_ones, told = paper
    first = kind.split(" ")[0]
    return f"{first} taken {show_row(taken)}, shrunk {show_row(shrunk_ones)}"


def net_told(bench):
    """The answer to show."""
    return show_net(bench.net())


def table_told(bench):
    """The answer to table."""
    return show_table(bench.table())


def walls_told(bench):
    """The answer to walls."""
    return show_some(walls(bench.table()))


def rounds_told(bench):
    """The answer to rounds."""
    return show_some(rounds(bench.table()))


def ball_told(bench):
    """The answer to ball."""
    paper = laid(bench.net())
    return "yes" if paper[0] == "laid" else show_paper(paper)


def same_told(one, other):
    """The answer to same."""
    told = one.road(other.net())
    return "same" if told[0] == "same" else f"unlike {show_row(told[2])}"


ASKED = {"show": net_told, "table": table_told, "walls": walls_told, "rounds": rounds_told, "ball": ball_told}
# So many names stand behind the net's name; the deed has them in the same order.
COUNTED = {"lay": 3, "take": 1, "shrink": 1, "together": 2}


def deed_of(word, names):
    """The deed that a word and the names behind the net's name tell."""
    if word in COUNTED and len(names) == COUNTED[word]:
        return tuple([word] + names)
    if word == "turn" and len(names) >= 1:
        return (word, names)
    if word == "apart" and len(names) >= 3:
        return (word, names[0], names[2:], names[1])
    raise NoText("no such row")


def names_of(text):
    """The names in a text, with a blank between them."""
    names = text.split(" ")
    if not all([is_name(name) for name in names]):
        raise NoText("a word is no name")
    return names


class Desk:
    """Keeps nets by names."""

    def __init__(self):
        self.benches = {}

    def bench_of(self, name):
        """The bench of a net that is kept."""
        if name not in self.benches:
            raise NoName("no net is kept by this name")
        return self.benches[name]

    def keep(self, word, text):
        """Keeps the net that a text tells behind a name."""
        name, blank, rest = text.partition(" ")
        if not is_name(name):
            raise NoText("the net's name is no name")
        # A table of no net is read as None, which the bench refuses with NoNet.
        self.benches[name] = Bench(read_net(rest) if word == "keep" else read(read_table(rest)))
        return "ok"

    def say(self, row):
        """Answers a row of words."""
        if not isinstance(row, str):
            raise NoText("a row is a text")
        word, blank, rest = row.partition(" ")
        if word == "judge":
            return show_paper(judged(read_table(rest)))
        if word == "keep" or word == "read":
            return self.keep(word, rest)
        return self.answer(word, names_of(rest))

    def answer(self, word, names):
        """Answers a word with names behind it."""
        if word in ASKED and len(names) == 1:
            told = ASKED[word]
            return told(self.bench_of(names[0]))
        if word == "same" and len(names) == 2:
            return same_told(self.bench_of(names[0]), self.bench_of(names[1]))
        deed = deed_of(word, names[1:])
        self.bench_of(names[0]).do(deed)
        return "ok"
