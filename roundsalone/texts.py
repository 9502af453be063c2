"""Rows, tables and nets written as texts, and read of them."""

from roundsalone.errors import NoText, TooMany
from roundsalone.nets import has_net_form, keeps_net_bounds
from roundsalone.spans import has_table_form, keeps_bounds

EMPTY = "-"


def show_row(row):
    """A row as a text."""
    return " ".join(row) if row else EMPTY


def show_rows(rows):
    """Rows as a text, one behind the other."""
    return " / ".join([show_row(row) for row in rows])


def show_table(table):
    """A table as a text."""
    return show_rows([table[0]] + table[1])


def show_net(net):
    """A net as a text."""
    return ", ".join([" ".join(tie) for tie in net]) if net else EMPTY


def words_of(text):
    """The words of a row's text; what is no row's is none as a list either."""
    return [] if text == EMPTY else text.split(" ")


def read_table(text):
    """The table that is written so."""
    if not isinstance(text, str):
        raise NoText("a table is read of a text")
    names, *rows = [words_of(part) for part in text.split(" / ")]
    if not has_table_form((names, rows)):
        raise NoText("no table is written so")
    if not keeps_bounds((names, rows)):
        raise TooMany("the table goes beyond the bounds")
    return (names, rows)


def read_net(text):
    """The net that is written so."""
    if not isinstance(text, str):
        raise NoText("a net is read of a text")
    net = [] if text == EMPTY else [tuple(part.split(" ")) for part in text.split(", ")]
    if not has_net_form(net):
        raise NoText("no net is written so")
    if not keeps_net_bounds(net):
        raise TooMany("the net goes beyond the bounds")
    return net
