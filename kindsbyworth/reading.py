"""The smaller judge of terms: it reads papers, and reckons nothing.

It goes single steps, shifts, puts in and compares; papers are of anything.
What is within a term is read by tasks of its own.
"""

from kindsbyworth.bench import around_part, leaf_told, wanted_of
from kindsbyworth.errors import Unjudged
from kindsbyworth.putting import put_in
from kindsbyworth.sameness import are_same
from kindsbyworth.steps import walked_noting
from kindsbyworth.tasks import done
from kindsbyworth.terms import parts_of


class Reader:
    """What the smaller judge goes by: a Scope, a dict of the open items whose calls it lets, and what it
    notes: a dict whose keys are the names of the definitions that ways unfold."""

    def __init__(self, scope, opens):
        self.scope = scope
        self.opens = opens
        self.noted = {}

    def beside(self, scope, opens):
        """Another one, which notes in the same place."""
        made = Reader(scope, opens)
        made.noted = self.noted
        return made

    def walked(self, term, way):
        """The term behind a way, of anything; None where it goes no step."""
        return walked_noting(self.scope, term, way, self.noted)

    def meets(self, one, way, other, further):
        """Whether the ways lead both terms to one."""
        first = self.walked(one, way)
        return first is not None and are_same(first, self.walked(other, further))


def is_told(thing, many):
    """Whether it is a tuple of so many."""
    return isinstance(thing, tuple) and len(thing) == many


def world_by(reader, kind, way):
    """The number of the world to which the way leads; None of a way to no world, or of no kind."""
    world = None if kind is None else reader.walked(kind, way)
    return world[1] if world is not None and world[0] == "world" else None


def leaf_by(term, around, manner):
    """The kind of what has no parts to read; None of what has none."""
    try:
        return leaf_told(term, around, manner, ())[0]
    except Unjudged:
        return None


def wanted_by(reader, term):
    """The telescope that a term's parts fit, and its kind, those around it; None of no name."""
    if term[0] == "call" and term[1] in reader.opens:
        return reader.opens[term[1]][2:]
    try:
        return wanted_of(reader.scope, term, ())
    except Unjudged:
        return None


class Reading:
    """A term and what may be a paper of its kind: told is this kind, None where it is no paper of it."""

    def __init__(self, reader, term, thing, around, manner):
        self.reader = reader
        self.term = term
        self.thing = thing
        self.around = around
        self.manner = manner
        self.stage = 0
        self.wanted = None
        self.told = None

    def go(self, told):
        """The next task within, by what the one ahead told."""
        self.stage = self.stage + 1
        word = self.term[0]
        if word == "to":
            return self._to(told) if is_told(self.thing, 4) else None
        if word == "fun":
            return self._fun(told) if is_told(self.thing, 3) else None
        if word == "give":
            return self._give(told) if is_told(self.thing, 3) else None
        if word in ("family", "shape", "call"):
            return self._table(told)
        if is_told(self.thing, 0):
            self.told = leaf_by(self.term, self.around, self.manner)
        return None

    def _part(self, number, thing, manner):
        """The task of reading the paper of a part."""
        around = around_part(self.term, number, self.around)
        return Reading(self.reader, parts_of(self.term)[number], thing, around, manner)

    def _fit(self, number, kind, mark, thing):
        """The task of reading the fit of a part, in manner gone where the mark is."""
        manner = "gone" if mark == "gone" else self.manner
        return FitReading(self.reader, parts_of(self.term)[number], kind, thing, self.around, manner)

    def _to(self, told):
        if self.stage == 1:
            return self._part(0, self.thing[0], "gone")
        if self.stage == 2:
            self.wanted = world_by(self.reader, told, self.thing[1])
            return None if self.wanted is None else self._part(1, self.thing[2], "gone")
        world = world_by(self.reader, told, self.thing[3])
        if world is not None:
            self.told = ("world", max(self.wanted, world))
        return None

    def _fun(self, told):
        if self.stage == 1:
            return self._part(0, self.thing[0], "gone")
        if self.stage == 2:
            if world_by(self.reader, told, self.thing[1]) is None:
                return None
            return self._part(1, self.thing[2], self.manner)
        if told is not None:
            self.told = ("to", self.term[1], self.term[2], told)
        return None

    def _give(self, told):
        mark = self.term[1]
        if self.stage == 1:
            return self._part(0, self.thing[0], self.manner)
        if self.stage == 3:
            if told:
                self.told = put_in(self.wanted[3], self.term[3:])
            return None
        self.wanted = None if told is None else self.reader.walked(told, self.thing[1])
        if self.wanted is None or self.wanted[0] != "to" or self.wanted[1] != mark:
            return None
        return self._fit(1, self.wanted[2], mark, self.thing[2])

    def _table(self, told):
        parts = parts_of(self.term)
        if self.stage == 1:
            self.wanted = wanted_by(self.reader, self.term)
            if self.wanted is None or len(self.wanted[0]) != len(parts) or not is_told(self.thing, len(parts)):
                return None
        elif not told:
            return None
        at = self.stage - 1
        if at == len(parts):
            self.told = put_in(self.wanted[1], parts)
            return None
        mark, kind = self.wanted[0][at]
        return self._fit(at, put_in(kind, parts[:at]), mark, self.thing[at])


class FitReading:
    """A term, a kind and what may be a fit of both: told is whether it is one."""

    def __init__(self, reader, term, kind, thing, around, manner):
        self.reader = reader
        self.term = term
        self.kind = kind
        self.thing = thing
        self.around = around
        self.manner = manner
        self.stage = 0
        self.wanted = None
        self.told = False

    def go(self, told):
        """The next task within, by what the one ahead told."""
        self.stage = self.stage + 1
        if is_told(self.thing, 4) and self.thing[0] == "as":
            return self._as(told)
        if is_told(self.thing, 7) and self.thing[0] == "under":
            return self._under(told)
        return None

    def _as(self, told):
        if self.stage == 1:
            return Reading(self.reader, self.term, self.thing[1], self.around, self.manner)
        if told is not None:
            self.told = self.reader.meets(told, self.thing[2], self.kind, self.thing[3])
        return None

    def _under(self, told):
        if self.stage == 1:
            return self._begin_under()
        if self.stage == 3:
            self.told = told
            return None
        other, left, right, given = self.thing[3:]
        if world_by(self.reader, told, other) is None:
            return None
        if not self.reader.meets(self.term[2], left, self.wanted[2], right):
            return None
        around = around_part(self.term, 1, self.around)
        return FitReading(self.reader, self.term[3], self.wanted[3], given, around, self.manner)

    def _begin_under(self):
        """The paper of a fun's kind to read, where the wanted kind comes to a to of its mark."""
        self.wanted = self.reader.walked(self.kind, self.thing[1])
        if self.term[0] != "fun" or self.wanted is None or self.wanted[0] != "to" or self.wanted[1] != self.term[1]:
            return None
        return Reading(self.reader, self.term[2], self.thing[2], self.around, "gone")


def told_by(reader, term, thing, around, manner):
    """The kind of a term by a paper; None where it is no paper of it."""
    return done(Reading(reader, term, thing, around, manner))


def fits_by(reader, term, kind, thing, around, manner):
    """Whether it is a fit of the term and the kind."""
    return done(FitReading(reader, term, kind, thing, around, manner))
