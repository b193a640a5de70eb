"""The judge of terms: their kinds and fits, each with the paper of it.

Tasks here are tuples (term, kind, around, manner, spot), kind None where the
term's own is asked; left is how much deeper calls may nest (tasks.py).
"""

from kindsbyworth.bench import around_part, held_fit, is_held, leaf_told, world_way
from kindsbyworth.errors import Unjudged
from kindsbyworth.lookups import wanted_of
from kindsbyworth.putting import put_in
from kindsbyworth.terms import parts_of


class Judge:
    """Judges terms by a bench: told are kinds and their papers, and fits; Unjudged of the first that is amiss."""

    def __init__(self, bench):
        self.bench = bench
        self.tasks = bench.tasks

    def do(self, task, left):
        """What a task tells: a kind and its paper, or a fit."""
        term, kind, around, manner, spot = task
        if kind is None:
            return self.tell_kind(term, around, manner, spot, left)
        return self.tell_fit(term, kind, around, manner, spot, left)

    def tell_kind(self, term, around, manner, spot, left):
        """The kind of a term, and the paper of it."""
        word = term[0]
        if len(term) == 2:
            return leaf_told(term, around, manner, spot)
        if left == 0:
            return self.tasks.deeper((term, None, around, manner, spot))
        if word == "to":
            return self._to(term, around, spot, left - 1)
        if word == "fun":
            return self._fun(term, around, manner, spot, left - 1)
        if word == "give":
            return self._give(term, around, manner, spot, left - 1)
        if is_held(term):
            raise Unjudged(spot, "wish")
        return self._table(term, around, manner, spot, left - 1)

    def _world(self, term, number, around, spot, left):
        """(paper, way, world's number) of a part, judged in manner gone, whose kind is a world."""
        inner = spot + (number,)
        kind, paper = self.tell_kind(parts_of(term)[number], around_part(term, number, around), "gone", inner, left)
        way, world = world_way(self.bench, kind, inner)
        return paper, way, world

    def _to(self, term, around, spot, left):
        paper, way, world = self._world(term, 0, around, spot, left)
        other, further, second = self._world(term, 1, around, spot, left)
        return ("world", max(world, second)), (paper, way, other, further)

    def _fun(self, term, around, manner, spot, left):
        paper, way, _ = self._world(term, 0, around, spot, left)
        kind, other = self.tell_kind(term[3], around_part(term, 1, around), manner, spot + (1,), left)
        return ("to", term[1], term[2], kind), (paper, way, other)

    def _give(self, term, around, manner, spot, left):
        kind, paper = self.tell_kind(term[2], around, manner, spot + (0,), left)
        way, head = self.bench.head(kind)
        if head[0] != "to":
            raise Unjudged(spot + (0,), "to")
        if head[1] != term[1]:
            raise Unjudged(spot + (0,), "mark")
        inner = "gone" if term[1] == "gone" else manner
        given = self.tell_fit(term[3], head[2], around, inner, spot + (1,), left)
        return put_in(head[3], term[3:]), (paper, way, given)

    def _table(self, term, around, manner, spot, left):
        """Of a family, shape or call."""
        parts = parts_of(term)
        wanted = wanted_of(self.bench.scope, term)
        if wanted is None:
            raise Unjudged(spot, "name")
        if len(parts) != len(wanted.places):
            raise Unjudged(spot, "many")
        fits = []
        for at, (mark, kind, is_open) in enumerate(wanted.places):
            if is_open:
                kind = put_in(kind, parts[:at])
            inner = "gone" if mark == "gone" else manner
            fits.append(self.tell_fit(parts[at], kind, around, inner, spot + (at,), left))
        kind = put_in(wanted.result, parts) if wanted.is_open else wanted.result
        return kind, tuple(fits)

    def tell_fit(self, term, kind, around, manner, spot, left):
        """The fit of a term that fits the kind."""
        if term[0] == "fun":
            way, head = self.bench.head(kind)
            if head[0] == "to" and head[1] == term[1]:
                if left == 0:
                    return self.tasks.deeper((term, kind, around, manner, spot))
                return self._under(term, way, head, around, manner, spot, left - 1)
        elif is_held(term):
            return held_fit(self.bench, term, kind, around, manner)
        own, paper = self.tell_kind(term, around, manner, spot, left)
        ways = self.bench.alike(own, kind)
        if ways is None:
            raise Unjudged(spot, "unlike")
        return ("as", paper, ways[0], ways[1])

    def _under(self, term, way, head, around, manner, spot, left):
        """The fit of a fun beneath a to."""
        paper, other, _ = self._world(term, 0, around, spot, left)
        ways = self.bench.alike(term[2], head[2])
        if ways is None:
            raise Unjudged(spot + (0,), "unlike")
        inner = self.tell_fit(term[3], head[3], around_part(term, 1, around), manner, spot + (1,), left)
        return ("under", way, paper, other, ways[0], ways[1], inner)


def kind_told(bench, term, around, manner, spot):
    """The kind of a term, and the paper of it; Unjudged of the first that is amiss."""
    return judged_by(bench, (term, None, around, manner, spot))


def kind_of_world(bench, kind, around, spot):
    """(paper, way, number): of a kind judged in manner gone, of the world of this number."""
    judged, paper = kind_told(bench, kind, around, "gone", spot)
    way, number = world_way(bench, judged, spot)
    return paper, way, number


def fitted(bench, term, kind, around, manner, spot):
    """The fit of a term that fits the kind; Unjudged of the first that is amiss."""
    return judged_by(bench, (term, kind, around, manner, spot))


def judged_by(bench, task):
    """What the judge tells of a task."""
    judge = Judge(bench)
    return bench.tasks.done(task, lambda here, left: judge.do(here, left))
