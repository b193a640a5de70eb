"""Rows judged: their places, what is forced there, and their bodies."""

from kindsbyworth.equations import Names
from kindsbyworth.errors import NoRow
from kindsbyworth.judges import fitted
from kindsbyworth.places import Row, in_takes, is_of_takes


class JudgedRow(Row):
    """A row that is gone through by reckoning, with the ways and moves that were gone."""

    def __init__(self, bench, number):
        self.set_up(bench.scope, Names(bench, False), number)
        self.bench = bench
        self.ways = []
        self.moves = {}

    def head_of(self, kind):
        """The head of the kind of the next shape pattern."""
        way, head = self.bench.head(kind)
        self.ways.append(way)
        return head

    def force(self, at, equations):
        """Go through the equations that come behind the shape pattern of this number; NoRow."""
        self.moves[at] = self.names.go_through(equations)
        if self.names.is_never:
            raise NoRow(self.number, "never")

    def asks_told(self):
        """(way, moves) of each shape pattern."""
        return tuple([(way, self.moves[at]) for at, way in enumerate(self.ways)])

    def take_kinds(self):
        """A way of each take's kind to its outcome, and the telescope of the takes; NoRow of what is unclear."""
        if self.names.left or self.unsolved_due():
            raise NoRow(self.number, "unclear")
        ways, around = [], ()
        for at, number in enumerate(self.takes):
            way, outcome = self.bench.outcome(self.names.kind(number))
            ahead = self.takes[:at]
            if not is_of_takes(outcome, ahead):
                raise NoRow(self.number, "unclear")
            ways.append(way)
            around = around + ((self.names.told[number][0], in_takes(outcome, ahead)),)
        return tuple(ways), around


def row_told(bench, definition, number):
    """The paper of a row: its asks, the ways of its takes, the fit of its body; NoRow, Unjudged."""
    patterns, body = definition[4][number]
    row = JudgedRow(bench, number)
    terms = row.go_through(patterns, definition[1])
    ways, around = row.take_kinds()
    return row.asks_told(), ways, fitted(bench, body, row.body_kind(definition[2], terms), around, "run", ())
