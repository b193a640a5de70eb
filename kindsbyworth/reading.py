"""The smaller judge of terms: it reads papers, and reckons nothing.

It goes single steps, shifts, puts in and compares; papers are of anything.
What is within a term is read by tasks of its own.
"""

from kindsbyworth.bench import around_part, leaf_told
from kindsbyworth.errors import Unjudged
from kindsbyworth.lookups import Wanted, wanted_of
from kindsbyworth.putting import put_in
from kindsbyworth.sameness import are_same_terms
from kindsbyworth.steps import walked_noting
from kindsbyworth.tasks import Tasks
from kindsbyworth.terms import parts_of


class Reader:
    """What the smaller judge goes by: a Scope, a dict of the open items whose calls it lets, and what it
    notes: a dict whose keys are the names of the definitions that ways unfold."""

    def __init__(self, scope, opens):
        self.scope = scope
        self.opens = opens
        self.noted = {}

    def beside(self, scope, opens):
        """Another one, which notes in the same place."""
        made = Reader(scope, opens)
        made.noted = self.noted
        return made

    def walked(self, term, way):
        """The term behind a way, of anything; None where it goes no step."""
        return walked_noting(self.scope, term, way, self.noted)

    def meets(self, one, way, other, further):
        """Whether the ways lead both terms to one."""
        first, second = self.walked(one, way), self.walked(other, further)
        return first is not None and second is not None and are_same_terms(first, second)


def is_told(thing, many):
    """Whether it is a tuple of so many."""
    return isinstance(thing, tuple) and len(thing) == many


def world_by(reader, kind, way):
    """The number of the world to which the way leads; None of a way to no world, or of no kind."""
    world = None if kind is None else reader.walked(kind, way)
    return world[1] if world is not None and world[0] == "world" else None


def leaf_by(term, around, manner):
    """The kind of what has no parts to read; None of what has none."""
    try:
        return leaf_told(term, around, manner, ())[0]
    except Unjudged:
        return None


def wanted_by(reader, term):
    """What a term's parts fit, and its kind; None of no name."""
    if term[0] == "call" and term[1] in reader.opens:
        return Wanted(reader.opens[term[1]][2], reader.opens[term[1]][3])
    return wanted_of(reader.scope, term)


class SmallerJudge:
    """Reads papers by what a reader goes by: told are kinds, None where there is no paper of one, and
    whether there is a fit. Tasks are tuples (term, kind, thing, around, manner), kind None where the term's
    own is asked; left is how much deeper calls may nest (tasks.py)."""

    def __init__(self, reader):
        self.reader = reader
        self.tasks = Tasks()

    def do(self, task, left):
        """What a task tells: a kind, or whether there is a fit."""
        term, kind, thing, around, manner = task
        if kind is None:
            return self.read_kind(term, thing, around, manner, left)
        return self.reads_fit(term, kind, thing, around, manner, left)

    def read_kind(self, term, thing, around, manner, left):
        """The kind of a term by what may be its paper; None of what is none of it."""
        word = term[0]
        if len(term) == 2:
            return leaf_by(term, around, manner) if is_told(thing, 0) else None
        if left == 0:
            return self.tasks.deeper((term, None, thing, around, manner))
        if word == "to":
            return self._to(term, thing, around, left - 1)
        if word == "fun":
            return self._fun(term, thing, around, manner, left - 1)
        if word == "give":
            return self._give(term, thing, around, manner, left - 1)
        return self._table(term, thing, around, manner, left - 1)

    def _world(self, term, number, thing, way, around, left):
        """The number of the world of a part's kind, by its paper and way; None of no such."""
        inner = around_part(term, number, around)
        return world_by(self.reader, self.read_kind(parts_of(term)[number], thing, inner, "gone", left), way)

    def _to(self, term, thing, around, left):
        if not is_told(thing, 4):
            return None
        world = self._world(term, 0, thing[0], thing[1], around, left)
        if world is None:
            return None
        other = self._world(term, 1, thing[2], thing[3], around, left)
        return None if other is None else ("world", max(world, other))

    def _fun(self, term, thing, around, manner, left):
        if not is_told(thing, 3) or self._world(term, 0, thing[0], thing[1], around, left) is None:
            return None
        kind = self.read_kind(term[3], thing[2], around_part(term, 1, around), manner, left)
        return None if kind is None else ("to", term[1], term[2], kind)

    def _give(self, term, thing, around, manner, left):
        if not is_told(thing, 3):
            return None
        kind = self.read_kind(term[2], thing[0], around, manner, left)
        head = None if kind is None else self.reader.walked(kind, thing[1])
        if head is None or head[0] != "to" or head[1] != term[1]:
            return None
        inner = "gone" if term[1] == "gone" else manner
        if not self.reads_fit(term[3], head[2], thing[2], around, inner, left):
            return None
        return put_in(head[3], term[3:])

    def _table(self, term, thing, around, manner, left):
        """Of a family, shape or call."""
        parts = parts_of(term)
        wanted = wanted_by(self.reader, term)
        if wanted is None or len(wanted.places) != len(parts) or not is_told(thing, len(parts)):
            return None
        for at, (mark, kind, is_open) in enumerate(wanted.places):
            if is_open:
                kind = put_in(kind, parts[:at])
            inner = "gone" if mark == "gone" else manner
            if not self.reads_fit(parts[at], kind, thing[at], around, inner, left):
                return None
        return put_in(wanted.result, parts) if wanted.is_open else wanted.result

    def reads_fit(self, term, kind, thing, around, manner, left):
        """Whether it is a fit of the term and the kind."""
        if is_told(thing, 4) and thing[0] == "as":
            own = self.read_kind(term, thing[1], around, manner, left)
            return own is not None and self.reader.meets(own, thing[2], kind, thing[3])
        if not is_told(thing, 7) or thing[0] != "under":
            return False
        if left == 0:
            return self.tasks.deeper((term, kind, thing, around, manner))
        return self._under(term, kind, thing, around, manner, left - 1)

    def _under(self, term, kind, thing, around, manner, left):
        """Whether it is the fit of a fun beneath a to."""
        head = self.reader.walked(kind, thing[1])
        if term[0] != "fun" or head is None or head[0] != "to" or head[1] != term[1]:
            return False
        if self._world(term, 0, thing[2], thing[3], around, left) is None:
            return False
        if not self.reader.meets(term[2], thing[4], head[2], thing[5]):
            return False
        return self.reads_fit(term[3], head[3], thing[6], around_part(term, 1, around), manner, left)


def read_by_tasks(reader, task):
    """What the smaller judge tells of a task."""
    judge = SmallerJudge(reader)
    return judge.tasks.done(task, lambda here, left: judge.do(here, left))


def told_by(reader, term, thing, around, manner):
    """The kind of a term by a paper; None where it is no paper of it."""
    return read_by_tasks(reader, (term, None, thing, around, manner))


def fits_by(reader, term, kind, thing, around, manner):
    """Whether it is a fit of the term and the kind."""
    return read_by_tasks(reader, (term, kind, thing, around, manner))
