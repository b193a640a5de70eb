"""The judge of terms: their kinds and fits, each with the paper of it.

A term may be deeper than calls may nest, so what is within it is judged by
tasks of its own.
"""

from kindsbyworth.bench import around_part, held_fit, is_held, leaf_told, wanted_of, world_way
from kindsbyworth.errors import Unjudged
from kindsbyworth.putting import put_in
from kindsbyworth.tasks import done
from kindsbyworth.terms import parts_of


class Judging:
    """A term to judge: told are its kind and the paper of it; Unjudged of the first that is amiss."""

    def __init__(self, bench, term, around, manner, spot):
        self.bench = bench
        self.term = term
        self.around = around
        self.manner = manner
        self.spot = spot
        self.stage = 0
        self.kept = []
        self.wanted = None
        self.told = None

    def go(self, told):
        """The next task within, by what the one ahead told."""
        self.stage = self.stage + 1
        word = self.term[0]
        if word == "to":
            return self._to(told)
        if word == "fun":
            return self._fun(told)
        if word == "give":
            return self._give(told)
        if word in ("family", "shape", "call") and not is_held(self.term):
            return self._table(told)
        self.told = leaf_told(self.term, self.around, self.manner, self.spot)
        return None

    def _part(self, number, manner):
        """The task of judging a part."""
        around = around_part(self.term, number, self.around)
        return Judging(self.bench, parts_of(self.term)[number], around, manner, self.spot + (number,))

    def _fit(self, number, kind, mark):
        """The task of fitting a part to a kind, in manner gone where the mark is."""
        manner = "gone" if mark == "gone" else self.manner
        part = parts_of(self.term)[number]
        return Fitting(self.bench, part, kind, self.around, manner, self.spot + (number,))

    def _keep_world(self, told, number):
        """Keep the paper of a part and its way to a world; this world's number."""
        kind, paper = told
        way, world = world_way(self.bench, kind, self.spot + (number,))
        self.kept.extend([paper, way])
        return world

    def _to(self, told):
        if self.stage == 1:
            return self._part(0, "gone")
        if self.stage == 2:
            self.wanted = self._keep_world(told, 0)
            return self._part(1, "gone")
        world = max(self.wanted, self._keep_world(told, 1))
        self.told = ("world", world), tuple(self.kept)
        return None

    def _fun(self, told):
        if self.stage == 1:
            return self._part(0, "gone")
        if self.stage == 2:
            self._keep_world(told, 0)
            return self._part(1, self.manner)
        kind, paper = told
        self.told = ("to", self.term[1], self.term[2], kind), (self.kept[0], self.kept[1], paper)
        return None

    def _give(self, told):
        if self.stage == 1:
            return self._part(0, self.manner)
        if self.stage == 3:
            self.told = put_in(self.wanted[3], self.term[3:]), (self.kept[0], self.kept[1], told)
            return None
        kind, paper = told
        way, self.wanted = self.bench.head(kind)
        if self.wanted[0] != "to":
            raise Unjudged(self.spot + (0,), "to")
        if self.wanted[1] != self.term[1]:
            raise Unjudged(self.spot + (0,), "mark")
        self.kept = [paper, way]
        return self._fit(1, self.wanted[2], self.term[1])

    def _table(self, told):
        parts = parts_of(self.term)
        if self.stage == 1:
            self.wanted = wanted_of(self.bench.scope, self.term, self.spot)
            if len(parts) != len(self.wanted[0]):
                raise Unjudged(self.spot, "many")
        else:
            self.kept.append(told)
        at = len(self.kept)
        if at == len(parts):
            self.told = put_in(self.wanted[1], parts), tuple(self.kept)
            return None
        mark, kind = self.wanted[0][at]
        return self._fit(at, put_in(kind, parts[:at]), mark)


class Fitting:
    """A term to fit to a kind: told is the fit; Unjudged of the first that is amiss."""

    def __init__(self, bench, term, kind, around, manner, spot):
        self.bench = bench
        self.term = term
        self.kind = kind
        self.around = around
        self.manner = manner
        self.spot = spot
        self.stage = 0
        self.way = None
        self.wanted = None
        self.kept = None
        self.told = None

    def go(self, told):
        """The next task within, by what the one ahead told."""
        self.stage = self.stage + 1
        if self.stage == 1:
            return self._begin()
        if self.wanted is not None:
            return self._under(told)
        kind, paper = told
        ways = self.bench.alike(kind, self.kind)
        if ways is None:
            raise Unjudged(self.spot, "unlike")
        self.told = ("as", paper, ways[0], ways[1])
        return None

    def _begin(self):
        """The kind of a fun beneath a to, or the whole term, to judge; None of what stands for a hole."""
        if self.term[0] == "fun":
            way, head = self.bench.head(self.kind)
            if head[0] == "to" and head[1] == self.term[1]:
                self.way, self.wanted = way, head
                return Judging(self.bench, self.term[2], self.around, "gone", self.spot + (0,))
        if is_held(self.term):
            self.told = held_fit(self.bench, self.term, self.kind, self.around, self.manner)
            return None
        return Judging(self.bench, self.term, self.around, self.manner, self.spot)

    def _under(self, told):
        """Beneath a to: the body to fit behind the kind, and the fit behind both."""
        if self.stage == 3:
            self.told = self.kept + (told,)
            return None
        kind, paper = told
        other, _ = world_way(self.bench, kind, self.spot + (0,))
        ways = self.bench.alike(self.term[2], self.wanted[2])
        if ways is None:
            raise Unjudged(self.spot + (0,), "unlike")
        self.kept = ("under", self.way, paper, other, ways[0], ways[1])
        around = around_part(self.term, 1, self.around)
        return Fitting(self.bench, self.term[3], self.wanted[3], around, self.manner, self.spot + (1,))


def kind_told(bench, term, around, manner, spot):
    """The kind of a term, and the paper of it; Unjudged of the first that is amiss."""
    return done(Judging(bench, term, around, manner, spot))


def kind_of_world(bench, kind, around, spot):
    """(paper, way, number): of a kind judged in manner gone, of the world of this number."""
    judged, paper = kind_told(bench, kind, around, "gone", spot)
    way, number = world_way(bench, judged, spot)
    return paper, way, number


def fitted(bench, term, kind, around, manner, spot):
    """The fit of a term that fits the kind; Unjudged of the first that is amiss."""
    return done(Fitting(bench, term, kind, around, manner, spot))
