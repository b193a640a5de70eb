"""Rows judged: their places, what is forced there, and their bodies."""

from kindsbyworth.bench import fitted
from kindsbyworth.equations import Names, number_of
from kindsbyworth.errors import NoRow
from kindsbyworth.lookups import family_of, shape_of
from kindsbyworth.putting import put_in
from kindsbyworth.terms import laid_out, with_ats


class Row:
    """A row that is gone through: its open names, its takes among them, its ways and moves."""

    def __init__(self, bench, number):
        self.bench = bench
        self.number = number
        self.names = Names(bench, False)
        self.takes = []
        self.asks = []

    def places(self, patterns, telescope, ahead):
        """The terms of these places, those ahead there put in the kinds of the telescope."""
        terms = ahead
        for pattern, (mark, kind) in zip(patterns, telescope):
            terms = terms + (self.place(pattern, mark, put_in(kind, terms)),)
        return terms[len(ahead):]

    def place(self, pattern, mark, kind):
        """The term of a place of this mark and kind."""
        if pattern[0] == "shape":
            return self.shape_place(pattern, mark, kind)
        if pattern[0] == "take":
            self.takes.append(len(self.names.told))
        return self.names.named(mark, kind, pattern[0] == "due")

    def shape_place(self, pattern, mark, kind):
        """The term of a shape pattern; no place around it is gone, or that one was refused."""
        if mark == "gone":
            raise NoRow(self.number, "gone")
        way, head = self.bench.head(self.names.put(kind))
        family, shape = self.shape_meant(pattern, head)
        many = len(family[2])
        params, indexes = head[2][:many], head[2][many:]
        at = len(self.asks)
        self.asks.append(None)
        terms = params + self.places(pattern[2], shape[1], params)
        moves = self.names.go_through([(index, put_in(end, terms)) for index, end in zip(indexes, shape[2])])
        if self.names.is_never:
            raise NoRow(self.number, "never")
        self.asks[at] = (way, moves)
        return ("shape", family[1], shape[0], terms)

    def shape_meant(self, pattern, head):
        """The family of a head, and its shape that the pattern means."""
        if head[0] != "family":
            raise NoRow(self.number, "family")
        family = family_of(self.bench.scope, head[1])
        shape = shape_of(family, pattern[1])
        if shape is None:
            raise NoRow(self.number, "shape")
        if len(shape[1]) != len(pattern[2]):
            raise NoRow(self.number, "many")
        return family, shape

    def refuse_unclear(self):
        """NoRow where an equation is left, or a due name isn't solved."""
        due = [number for number in self.names.unsolved() if self.names.told[number][2]]
        if self.names.left or due:
            raise NoRow(self.number, "unclear")

    def take_kinds(self):
        """A way of each take's kind to its outcome, and the telescope of the takes."""
        ways, around = [], ()
        for at, number in enumerate(self.takes):
            way, outcome = self.bench.outcome(self.names.kind(number))
            ahead = self.takes[:at]
            if not is_of_takes(outcome, ahead):
                raise NoRow(self.number, "unclear")
            ways.append(way)
            around = around + ((self.names.told[number][0], in_takes(outcome, ahead)),)
        return tuple(ways), around


def is_of_takes(term, takes):
    """Whether no open name stands in it but these takes."""
    ats = [(part[1], bodies) for _, part, bodies in laid_out(term) if part[0] == "at"]
    return all([k < bodies or number_of(k, bodies) in takes for k, bodies in ats])


def in_takes(term, takes):
    """The term of open names, all of these takes, with these takes alone around it."""
    places = {number: at for at, number in enumerate(takes)}

    def replaced(k, bodies):
        number = number_of(k, bodies)
        return ("at", len(takes) - 1 - places[number] + bodies) if number in places else ("at", k)

    return with_ats(term, replaced)


def row_told(bench, definition, number):
    """The paper of a row: its asks, the ways of its takes, the fit of its body; NoRow, Unjudged."""
    patterns, body = definition[4][number]
    row = Row(bench, number)
    terms = row.places(patterns, definition[1], ())
    row.refuse_unclear()
    ways, around = row.take_kinds()
    solved = tuple([row.names.put(term) for term in terms])
    wanted = in_takes(put_in(definition[2], solved), row.takes)
    return tuple(row.asks), ways, fitted(bench, body, wanted, around, "run", ())
