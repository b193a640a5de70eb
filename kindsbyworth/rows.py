"""Rows judged: their places, what is forced there, and their bodies."""

from kindsbyworth.equations import Names, number_of
from kindsbyworth.errors import NoRow
from kindsbyworth.judges import fitted
from kindsbyworth.lookups import family_of, shape_of
from kindsbyworth.putting import put_in
from kindsbyworth.terms import laid_out, with_ats


class Places:
    """Places beside one another that are gone through: those of a row, or those within a shape pattern.

    Of those within one, ask tells (the number of its ask, the way of its kind, the head of this, the shape).
    """

    def __init__(self, patterns, telescope, ahead, ask):
        self.patterns = patterns
        self.telescope = telescope
        self.terms = ahead
        self.ask = ask
        self.begun = 0

    def begin(self):
        """The pattern, mark and kind of the next place."""
        mark, kind = self.telescope[self.begun]
        self.begun = self.begun + 1
        return self.patterns[self.begun - 1], mark, put_in(kind, self.terms)


class Row:
    """A row that is gone through: its open names, its takes among them, its ways and moves."""

    def __init__(self, bench, number):
        self.bench = bench
        self.number = number
        self.names = Names(bench, False)
        self.takes = []
        self.asks = []

    def go_through(self, patterns, telescope):
        """The terms of the row's places; NoRow."""
        left = [Places(patterns, telescope, (), None)]
        while True:
            here = left[-1]
            if here.begun < len(here.patterns):
                pattern, mark, kind = here.begin()
                if pattern[0] == "shape":
                    left.append(self.entered(pattern, mark, kind))
                else:
                    here.terms = here.terms + (self.named(pattern, mark, kind),)
                continue
            left.pop()
            if not left:
                return here.terms
            left[-1].terms = left[-1].terms + (self.left_behind(here),)

    def named(self, pattern, mark, kind):
        """The term of a take or due."""
        if pattern[0] == "take":
            self.takes.append(len(self.names.told))
        return self.names.named(mark, kind, pattern[0] == "due")

    def entered(self, pattern, mark, kind):
        """The places within a shape pattern; no place around it is gone, or that one was refused."""
        if mark == "gone":
            raise NoRow(self.number, "gone")
        way, head = self.bench.head(self.names.put(kind))
        family, shape = self.shape_meant(pattern, head)
        self.asks.append(None)
        return Places(pattern[2], shape[1], head[2][:len(family[2])], (len(self.asks) - 1, way, head, shape))

    def left_behind(self, places):
        """The term of a shape pattern behind its last place, where its equations come."""
        at, way, head, shape = places.ask
        indexes = head[2][len(head[2]) - len(shape[2]):]
        moves = self.names.go_through([(index, put_in(end, places.terms)) for index, end in zip(indexes, shape[2])])
        if self.names.is_never:
            raise NoRow(self.number, "never")
        self.asks[at] = (way, moves)
        return ("shape", head[1], shape[0], places.terms)

    def shape_meant(self, pattern, head):
        """The family of a head, and its shape that the pattern means."""
        if head[0] != "family":
            raise NoRow(self.number, "family")
        family = family_of(self.bench.scope, head[1])
        shape = shape_of(family, pattern[1])
        if shape is None:
            raise NoRow(self.number, "shape")
        if len(shape[1]) != len(pattern[2]):
            raise NoRow(self.number, "many")
        return family, shape

    def refuse_unclear(self):
        """NoRow where an equation is left, or a due name isn't solved."""
        due = [number for number in self.names.unsolved() if self.names.told[number][2]]
        if self.names.left or due:
            raise NoRow(self.number, "unclear")

    def take_kinds(self):
        """A way of each take's kind to its outcome, and the telescope of the takes."""
        ways, around = [], ()
        for at, number in enumerate(self.takes):
            way, outcome = self.bench.outcome(self.names.kind(number))
            ahead = self.takes[:at]
            if not is_of_takes(outcome, ahead):
                raise NoRow(self.number, "unclear")
            ways.append(way)
            around = around + ((self.names.told[number][0], in_takes(outcome, ahead)),)
        return tuple(ways), around


def is_of_takes(term, takes):
    """Whether no open name stands in it but these takes."""
    ats = [(part[1], bodies) for _, part, bodies in laid_out(term) if part[0] == "at"]
    return all([k < bodies or number_of(k, bodies) in takes for k, bodies in ats])


def in_takes(term, takes):
    """The term of open names, all of these takes, with these takes alone around it."""
    places = {number: at for at, number in enumerate(takes)}

    def replaced(k, bodies):
        number = number_of(k, bodies)
        return ("at", len(takes) - 1 - places[number] + bodies) if number in places else ("at", k)

    return with_ats(term, replaced)


def row_told(bench, definition, number):
    """The paper of a row: its asks, the ways of its takes, the fit of its body; NoRow, Unjudged."""
    patterns, body = definition[4][number]
    row = Row(bench, number)
    terms = row.go_through(patterns, definition[1])
    row.refuse_unclear()
    ways, around = row.take_kinds()
    solved = tuple([row.names.put(term) for term in terms])
    wanted = in_takes(put_in(definition[2], solved), row.takes)
    return tuple(row.asks), ways, fitted(bench, body, wanted, around, "run", ())
